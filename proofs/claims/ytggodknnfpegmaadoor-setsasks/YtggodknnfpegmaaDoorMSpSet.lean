import Derived.Test.YtggodknnfpegmaaDoorMSpArg
import Derived.Test.YtggodknnfpegmaaDoorMExSt1
import Derived.RegionTactic
import Derived.Deep.Cut
import Derived.Deep.CutRange
namespace Go.Proofs.YtggodknnfpegmaaDoor
open Go.RowKit
attribute [local go_sem] Oper.semAt_some
namespace Ex

/-- A set of names or terminals as one number: its two words. -/
def setS (A : Nat) : Array Value := #[.int .u64 (wordAt A 0 : Nat), .int .u64 (wordAt A 1 : Nat)]
theorem setS_at (A : Nat) {i : Nat} (h : i < 2) : (setS A)[i]? = some (.int .u64 (wordAt A i : Nat)) := by
  match i, h with
  | 0, _ => rfl
  | 1, _ => rfl
theorem setS_size (A : Nat) : (setS A).size = 2 := rfl
theorem setS_or (A k x : Nat) (hk : k < 2) (hx : x < 18446744073709551616) {v : Value} (hv : v = .int .u64 ((wordAt A k ||| x : Nat) : Int)) : (setS A).setIfInBounds k v = setS (A ||| x * 2 ^ (64 * k)) := by
  subst hv
  apply Array.ext_getElem?
  intro i
  rw [Array.getElem?_setIfInBounds, setS_size]
  by_cases hi : i < 2
  · rw [setS_at _ hi, setS_at _ hi, word_or, word_shift k i hx]
    by_cases h : k = i
    · subst h; simp [hi]
    · simp [h]
  · have h1 : ∀ B, (setS B)[i]? = none := fun B => by rw [Array.getElem?_eq_none_iff, setS_size]; omega
    rw [h1, h1, if_neg (by omega)]
theorem bit_and_ne (A p : Nat) : (bits BinOp.and IntKind.u64 ((wordAt A (p / 64) : Nat) / 2 ^ (p % 64) : Int) 1 != 0) = A.testBit p := by
  rw [← bit_and_one A p]
  have h1 : ((wordAt A (p / 64) : Nat) / 2 ^ (p % 64) : Int) = ((wordAt A (p / 64) / 2 ^ (p % 64) : Nat) : Int) := by simp
  have h2 : wordAt A (p / 64) / 2 ^ (p % 64) < 18446744073709551616 := Nat.lt_of_le_of_lt (Nat.div_le_self _ _) (word_lt _ _)
  rw [h1, show (1 : Int) = ((1 : Nat) : Int) by rfl, bits_and_u64_nat _ _ h2 (by decide), Nat.and_one_is_mod]
  generalize wordAt A (p / 64) / 2 ^ (p % 64) = x
  have : x % 2 = 0 ∨ x % 2 = 1 := by omega
  rcases this with h | h <;> simp [h]
set_option linter.unusedSimpArgs false in
set_option maxRecDepth 100000 in
set_option maxHeartbeats 2000000 in
theorem sHas_is (A p : Nat) (hp : p < 128) (w : World) : Calls Tryd.prog 48 #[.agg (setS A), .int .i64 (p : Int)] w fun e w' => e = .returned (.bool (A.testBit p)) ∧ Kept w w' := by
  have gp : (p : Int) < 128 := by omega
  have hq := setS_at A (i := p / 64) (by omega)
  go_enter Tryd.func48, Tryd.ntmps48
  go_wp2
  go_ret
  refine ⟨?_, (Kept.refl w).alloc _ _⟩
  rw [bit_and_ne]
  rfl
/-- A set that lies in block b, alone. -/
def SetB (w : World) (b A : Nat) : Prop := w.heap[b]? = some (.cells (setS A) 85 (0, 0))
theorem SetB.cell {w : World} {b A i : Nat} (h : SetB w b A) (hi : i < 2) : w.cell? ⟨b, i, none⟩ = some (.int .u64 (wordAt A i : Nat)) := by
  unfold SetB at h
  simp only [World.cell?, h]
  exact setS_at A hi
theorem SetB.free {w : World} {b A : Nat} (i : Nat) (h : SetB w b A) : w.frozen? ⟨b, i, none⟩ = false := by
  unfold SetB at h
  simp [World.frozen?, h]
theorem SetB.or {w : World} {b A k x : Nat} {v : Value} (h : SetB w b A) (hk : k < 2) (hx : x < 18446744073709551616) (hv : v = .int .u64 ((wordAt A k ||| x : Nat) : Int)) : SetB (w.setCell ⟨b, k, none⟩ v) b (A ||| x * 2 ^ (64 * k)) := by
  unfold SetB at h ⊢
  have hl : b < w.heap.size := (Array.getElem?_eq_some_iff.1 h).1
  have he : w.heap[b] = Obj.cells (setS A) 85 (0, 0) := by rw [Array.getElem?_eq_getElem hl] at h; exact Option.some.inj h
  rw [← setS_or A k x hk hx hv]
  simp [World.setCell, Array.getElem_modify, hl, he]
theorem SetB.lt {w : World} {b A : Nat} (h : SetB w b A) : b < w.heap.size := (Array.getElem?_eq_some_iff.1 h).1
theorem SetB.keep {w w' : World} {b A : Nat} (h : SetB w b A) (hk : Kept w w') : SetB w' b A := (hk.2.2.2.2 b h.lt).trans h
theorem SetB.new (w : World) (A : Nat) : SetB (w.alloc (.cells (setS A) 85)) w.heap.size A := heap_alloc_new w _
set_option maxRecDepth 100000 in
set_option maxHeartbeats 2000000 in
theorem within_is (x n : Int) (w : World) : Calls Tryd.prog 70 #[.int .i64 x, .int .i64 n] w fun e w' => e = .returned (.bool (decide (0 ≤ x) && decide (x < n))) ∧ w' = w := by
  go_enter Tryd.func70, Tryd.ntmps70
  by_cases h0 : 0 ≤ x
  · have b0 : decide (0 ≤ x) = true := by simpa using h0
    by_cases h1 : x < n
    · go_wp2
      go_ret
      exact ⟨by simp [h0, h1], rfl⟩
    · go_wp2
      go_ret
      exact ⟨by simp [h1], rfl⟩
  · go_wp2
    go_ret
    exact ⟨by simp; omega, rfl⟩

theorem heap_set_ne {w : World} {b k d : Nat} {u : Value} (hd : d ≠ b) : (w.setCell ⟨b, k, none⟩ u).heap[d]? = w.heap[d]? := Below.heap_setCell _ _ _ _ hd
theorem keepB {w W : World} {g o : Nat} {x : Value} (h : Kept w W) (hg : w.heap.size ≤ g) : Kept w (W.setCell ⟨g, o, none⟩ x) :=
  ⟨h.1, h.2.1, h.2.2.1, by simpa [World.setCell] using h.size, fun k hk => (heap_set_ne (by omega)).trans (h.2.2.2.2 k hk)⟩
theorem set2_size (A : Nat) : (Tryd.prog.info? 85).map (·.size) = some (setS A).size := by
  rw [setS_size]
  kernel_rfl
theorem setS_eq (A : Nat) : setS A = #[.int .u64 (wordAt A 0 : Nat), .int .u64 (wordAt A 1 : Nat)] := rfl
/-- Both words of a set are written. -/
theorem SetB.fill {w : World} {b A B : Nat} (h : SetB w b A) : SetB ((w.setCell ⟨b, 0, none⟩ (.int .u64 (wordAt B 0 : Nat))).setCell ⟨b, 1, none⟩ (.int .u64 (wordAt B 1 : Nat))) b B := by
  unfold SetB at h ⊢
  have hl : b < w.heap.size := (Array.getElem?_eq_some_iff.1 h).1
  have he : w.heap[b] = Obj.cells (setS A) 85 (0, 0) := by rw [Array.getElem?_eq_getElem hl] at h; exact Option.some.inj h
  simp [World.setCell, Array.getElem_modify, hl, he, setS]
theorem set_two (w : World) (A : Nat) : SetB ((w.alloc (.cells (setS A) 85)).alloc (.cells #[.int .u64 0, .int .u64 0] 85)) (w.heap.size + 1) 0 ∧ SetB ((w.alloc (.cells (setS A) 85)).alloc (.cells #[.int .u64 0, .int .u64 0] 85)) w.heap.size A ∧ Kept w ((w.alloc (.cells (setS A) 85)).alloc (.cells #[.int .u64 0, .int .u64 0] 85)) := by
  refine ⟨?_, (SetB.new w A).keep ((Kept.refl _).alloc _ _), ((Kept.refl w).alloc _ _).alloc _ _⟩
  have h := heap_alloc_new (w.alloc (.cells (setS A) 85)) (.cells #[.int .u64 0, .int .u64 0] 85)
  rw [World.size_alloc] at h
  exact h
set_option linter.unusedSimpArgs false in
set_option maxRecDepth 100000 in
set_option maxHeartbeats 2000000 in
theorem sWith_is (A p : Nat) (hp : p < 128) (w : World) : Calls Tryd.prog 72 #[.agg (setS A), .int .i64 (p : Int)] w fun e w' => e = .returned (.agg (setS (A ||| 2 ^ p))) ∧ Kept w w' := by
  have gp : (p : Int) < 128 := by omega
  obtain ⟨h1, h2, h3⟩ := set_two w A
  have HK := hide1 h3
  have HR := hide1 h1
  have HS := hide1 h2
  clear h1 h2 h3
  go_enter Tryd.func72, Tryd.ntmps72
  go_upto_region 1 with fail
  obtain ⟨W, hW⟩ : ∃ W, (w.alloc (.cells (setS A) 85)).alloc (.cells #[.int .u64 0, .int .u64 0] 85) = W := ⟨_, rfl⟩
  rw [hW] at HK HR HS ⊢
  clear hW
  obtain ⟨b, hb⟩ : ∃ b, w.heap.size = b := ⟨_, rfl⟩
  rw [hb] at HR HS ⊢
  have HB := hide1 hb
  clear hb
  have hq := HS.out.cell (i := p / 64) (by omega)
  have hf := HS.out.free (p / 64)
  go_upto_region 2 with (go_region)
  clear hq hf
  have HS2 := hide1 (HS.out.or (k := p / 64) (by omega) (pow_lt p) (congrArg (Value.int .u64) (or_put A p)))
  rw [pow_split] at HS2
  obtain ⟨W2, hW2⟩ : ∃ W2, (W.setCell ⟨b, p / 64, none⟩ (.int .u64 (bits BinOp.or IntKind.u64 ((wordAt A (p / 64) : Nat) : Int) (IntKind.u64.wrap (2 ^ (p % 64)))))).drew = W2 := ⟨_, rfl⟩
  have HS3 : Hid (SetB W2 b (A ||| 2 ^ p)) := by rw [← hW2]; exact HS2.out
  have HR3 : Hid (SetB W2 (b + 1) 0) := by rw [← hW2]; exact (heap_set_ne (by omega)).trans HR.out
  have HK3 : Hid (Kept w W2) := by rw [← hW2]; exact gtrans (keepB HK.out (by rw [HB.out]; exact Nat.le_refl _)) (drew_kept _)
  rw [hW2]
  clear hW2 HS2 HR HS HK
  have c0 := HS3.out.cell (i := 0) (by omega)
  have c1 := HS3.out.cell (i := 1) (by omega)
  have r0 := HR3.out.cell (i := 0) (by omega)
  have r1 := HR3.out.cell (i := 1) (by omega)
  have z0 := HR3.out.free 0
  have z1 := HR3.out.free 1
  go_wp2_with fail
  refine bodyPost_ret (results_cell_row rfl _ _ (b + 1) 85 (setS (A ||| 2 ^ p)) (0, 0) _ rfl HR3.out.fill Tryd.underlying85 rfl (set2_size _)) rfl ?_
  exact ⟨rfl, keepB (keepB HK3.out (by rw [HB.out]; omega)) (by rw [HB.out]; omega)⟩

end Ex
end Go.Proofs.YtggodknnfpegmaaDoor
namespace Go.Proofs.YtggodknnfpegmaaDoor
open Go.RowKit
attribute [local go_sem] Oper.semAt_some
namespace Ex

/-- The first j words of B are put to A. -/
def orT (A B : Nat) : Nat → Nat
  | 0 => A
  | j + 1 => orT A B j ||| wordAt B j * 2 ^ (64 * j)
theorem orT_word (A B i : Nat) (hi : i < 2) : wordAt (orT A B 2) i = wordAt (A ||| B) i := by
  show wordAt ((A ||| wordAt B 0 * 2 ^ (64 * 0)) ||| wordAt B 1 * 2 ^ (64 * 1)) i = _
  rw [word_or, word_or, word_or, word_shift 0 i (word_lt _ _), word_shift 1 i (word_lt _ _)]
  match i, hi with
  | 0, _ => simp
  | 1, _ => simp
theorem orT_set (A B : Nat) : setS (orT A B 2) = setS (A ||| B) := by
  unfold setS
  rw [orT_word A B 0 (by omega), orT_word A B 1 (by omega)]
theorem orT_at (A B j : Nat) (hj : j < 2) : wordAt (orT A B j) j = wordAt A j := by
  match j, hj with
  | 0, _ => rfl
  | 1, _ =>
    show wordAt (A ||| wordAt B 0 * 2 ^ (64 * 0)) 1 = _
    rw [word_or, word_shift 0 1 (word_lt _ _)]
    simp
theorem set_three (w : World) (A B : Nat) : SetB (((w.alloc (.cells (setS A) 85)).alloc (.cells (setS B) 85)).alloc (.cells #[.int .u64 0, .int .u64 0] 85)) (w.heap.size + 1 + 1) 0 ∧ SetB (((w.alloc (.cells (setS A) 85)).alloc (.cells (setS B) 85)).alloc (.cells #[.int .u64 0, .int .u64 0] 85)) w.heap.size A ∧ SetB (((w.alloc (.cells (setS A) 85)).alloc (.cells (setS B) 85)).alloc (.cells #[.int .u64 0, .int .u64 0] 85)) (w.heap.size + 1) B ∧ Kept w (((w.alloc (.cells (setS A) 85)).alloc (.cells (setS B) 85)).alloc (.cells #[.int .u64 0, .int .u64 0] 85)) := by
  obtain ⟨h1, h2, h3⟩ := set_two (w.alloc (.cells (setS A) 85)) B
  rw [World.size_alloc] at h1 h2
  exact ⟨h1, (SetB.new w A).keep h3, h2, gtrans ((Kept.refl w).alloc _ _) h3⟩
theorem word2_size : (Tryd.prog.info? 83).map (·.size) = some 1 := by kernel_rfl
theorem run_index_S (A i : Nat) (hi : i < 2) (w : World) : (Instr.index 85 (.agg (setS A)) (.int .i64 (i : Int))).run Tryd.prog w = .ok (.int .u64 (wordAt A i : Nat)) w := by
  obtain ⟨i0, h0, h1⟩ := Option.map_eq_some_iff.1 word2_size
  have hg : (setS A)[i]? = some (.int .u64 (wordAt A i : Nat)) := setS_at A hi
  simp [Instr.index, run_underlying Tryd.underlying85, asIntOf, part, sizeOf, typeInfo, h0, h1, hg, go_sem]
  intro h
  omega
/-- The loop of or. -/
def OrR (w : World) (b A B : Nat) (vi : Value) (wr : World) : Prop := ∃ j : Nat, vi = .int .i64 (j : Int) ∧ j ≤ 2 ∧ Hid (SetB wr b (orT A B j)) ∧ Hid (SetB wr (b + 1 + 1) 0) ∧ Hid (Kept w wr)
set_option linter.unusedSimpArgs false in
set_option maxRecDepth 100000 in
set_option maxHeartbeats 2000000 in
theorem sOr_is (A B : Nat) (w : World) : Calls Tryd.prog 75 #[.agg (setS A), .agg (setS B)] w fun e w' => e = .returned (.agg (setS (A ||| B))) ∧ Kept w w' := by
  obtain ⟨h1, h2, h4, h3⟩ := set_three w A B
  have HK := hide1 h3
  have HR := hide1 h1
  have HS := hide1 h2
  have HO := hide1 h4
  clear h1 h2 h3 h4
  go_enter Tryd.func75, Tryd.ntmps75
  go_upto_region 1 with fail
  obtain ⟨W, hW⟩ : ∃ W, ((w.alloc (.cells (setS A) 85)).alloc (.cells (setS B) 85)).alloc (.cells #[.int .u64 0, .int .u64 0] 85) = W := ⟨_, rfl⟩
  rw [hW] at HK HR HS HO ⊢
  clear hW
  obtain ⟨b, hb⟩ : ∃ b, w.heap.size = b := ⟨_, rfl⟩
  rw [hb] at HR HS HO ⊢
  have HB := hide1 hb
  clear hb
  go_wp2_with (refine wpList_load_row rfl 85 _ rfl (b + 1) rfl 85 (setS B) (0, 0) _ HO.out Tryd.underlying85 rfl (set2_size B) ?_)
  go_loopw [8] (OrR w b A B) (fun i _ => 2 - (intOf i).toNat)
  case atStart => exact ⟨0, rfl, Nat.zero_le _, HS, HR, HK⟩
  case round =>
    obtain ⟨j, rfl, hj, HS2, HR2, HK2⟩ := hrel
    by_cases hlt : (j : Int) < 2
    · have hx := run_index_S B j (by omega)
      have q0 := HS2.out.cell (i := j) (by omega)
      have f0 := HS2.out.free j
      have HJ := hide1 (show j < 2 by omega)
      go_wp2_with fail
      go_roundw
      case rel =>
        have hj2 := HJ.out
        refine ⟨j + 1, by go_num, by omega, ?_, (heap_set_ne (by omega)).trans HR2.out, keepB HK2.out (by rw [HB.out]; exact Nat.le_refl _)⟩
        exact HS2.out.or (k := j) hj2 (word_lt B j) (congrArg (Value.int .u64) (or_word _ _ (word_lt _ _) (word_lt _ _)))
      case measure => simp [intOf]; omega
    · obtain rfl : j = 2 := by omega
      have c0 := HS2.out.cell (i := 0) (by omega)
      have c1 := HS2.out.cell (i := 1) (by omega)
      have r0 := HR2.out.cell (i := 0) (by omega)
      have r1 := HR2.out.cell (i := 1) (by omega)
      have z0 := HR2.out.free 0
      have z1 := HR2.out.free 1
      go_wp2_with fail
      refine bodyPost_ret (results_cell_row rfl _ _ (b + 1 + 1) 85 (setS (orT A B 2)) (0, 0) _ rfl HR2.out.fill Tryd.underlying85 rfl (set2_size _)) rfl ?_
      refine ⟨by rw [orT_set], keepB (keepB HK2.out (by rw [HB.out]; omega)) (by rw [HB.out]; omega)⟩

end Ex
end Go.Proofs.YtggodknnfpegmaaDoor
namespace Go.Proofs.YtggodknnfpegmaaDoor
open Go.RowKit
attribute [local go_sem] Oper.semAt_some
namespace Ex

/-- The number of a symbol that is no name. -/
def termP (n : Nat) (x : SymM) : Int := if x.1 = 2 then (n : Int) else x.2
set_option linter.unusedSimpArgs false in
set_option maxRecDepth 100000 in
set_option maxHeartbeats 2000000 in
theorem terminal_is (a : Option Addr) (n c : Nat) (hn : n ≤ 17592186044416) (vn vp : Value) (st kd nn : Int) (w : World) : Calls Tryd.prog 76 #[.agg #[.slice a n c, vn, .int .i64 st, vp], .agg #[.int .i64 kd, .int .i64 nn]] w fun e w' => e = .returned (.int .i64 (termP n (kd, nn))) ∧ Kept w w' := by
  unfold termP
  have gn : (n : Int) ≤ 17592186044416 := by omega
  go_enter Tryd.func76, Tryd.ntmps76
  by_cases h : kd = 2
  · have e : (kd == 2) = true := by simpa using h
    go_wp2
    go_ret
    exact ⟨by simp [h], ((Kept.refl w).alloc _ _).alloc _ _⟩
  · have e : (kd == 2) = false := by simpa using h
    go_wp2
    go_ret
    exact ⟨by simp [h], ((Kept.refl w).alloc _ _).alloc _ _⟩
theorem within_at (x n : Int) (b : Bool) (h : (decide (0 ≤ x) && decide (x < n)) = b) (w : World) : Calls Tryd.prog 70 #[.int .i64 x, .int .i64 n] w fun e w' => e = .returned (.bool b) ∧ w' = w := by
  subst h
  exact within_is x n w
/-- Why a symbol is none; 0: it is one. -/
def symErr {k : Nat} (lex : List (LexM k)) (names : Nat) (x : SymM) : Int :=
  if x.1 = 1 ∧ 0 ≤ x.2 ∧ x.2 < (lex.length : Int) then (if (lex[x.2.toNat]?.map (·.2.1)).getD false = true then 71 else 0)
  else if (x.1 = 2 ∧ x.2 = 0) ∨ (x.1 = 3 ∧ 0 ≤ x.2 ∧ x.2 < (names : Int)) then 0 else 70
theorem SliceOf.len {α : Type} {w : World} {sz : Nat} {El : List Value → α → Prop} {v : Value} {xs : List α} (h : SliceOf w sz El v xs) : ∃ a cap, v = .slice a xs.length cap ∧ xs.length ≤ cap ∧ xs.length ≤ 17592186044416 := by
  obtain ⟨a, cap, h1, h2, h3, _⟩ := h
  exact ⟨a, cap, h1, h2, h3⟩
theorem SliceOf.el {α : Type} {w : World} {sz : Nat} {El : List Value → α → Prop} {a : Option Addr} {n cap : Nat} {xs : List α} (h : SliceOf w sz El (.slice a n cap) xs) {i : Nat} {x : α} (hi : xs[i]? = some x) : ∃ c o cs, a = some ⟨c, o, none⟩ ∧ c < w.heap.size ∧ cs.length = sz ∧ (∀ (j : Nat) (u : Value), cs[j]? = some u → w.cell? ⟨c, o + i * sz + j, none⟩ = some u) ∧ El cs x := by
  obtain ⟨a', cap', h1, _, _, h4⟩ := h
  simp only [Value.slice.injEq] at h1
  obtain ⟨rfl, _, _⟩ := h1
  rcases h4 with h4 | ⟨c, o, h5, h6, h7⟩
  · rw [h4] at hi; simp at hi
  · obtain ⟨cs, g1, g2, g3⟩ := h7 i x hi
    exact ⟨c, o, cs, h5, h6, g1, g2, g3⟩
set_option linter.unusedSimpArgs false in
set_option maxRecDepth 100000 in
set_option maxHeartbeats 4000000 in
theorem checkSymbol_is (k : Nat) (a b : Option Addr) (n c n2 c2 : Nat) (lex : List (LexM k)) (hlex : lex.length = n) (hn2 : n2 ≤ 17592186044416) (vp : Value) (st kd nn : Int) (w : World) (hl : LexAt w k (.slice a n c) lex) :
    Calls Tryd.prog 94 #[.agg #[.slice a n c, .slice b n2 c2, .int .i64 st, vp], .agg #[.int .i64 kd, .int .i64 nn]] w fun e w' => e = .returned (.int .i64 (symErr lex n2 (kd, nn))) ∧ Kept w w' := by
  have HL := hide1 hl
  have HLEN := hide1 hlex
  obtain ⟨_, _, e1, hc, hn⟩ := hl.len
  simp only [Value.slice.injEq] at e1
  obtain ⟨rfl, en, rfl⟩ := e1
  clear en
  rw [hlex] at hc hn
  have gn : (n : Int) ≤ 17592186044416 := by omega
  have gn2 : (n2 : Int) ≤ 17592186044416 := by omega
  have HK : Hid (∀ c1 t1 c2 t2, Kept w ((w.alloc (.cells c1 t1)).alloc (.cells c2 t2))) := fun _ _ _ _ => ((Kept.refl w).alloc _ _).alloc _ _
  have HM : Hid (symErr lex n2 (kd, nn) = if kd = 1 ∧ 0 ≤ nn ∧ nn < (n : Int) then (if (lex[nn.toNat]?.map (·.2.1)).getD false = true then 71 else 0) else if (kd = 2 ∧ nn = 0) ∨ (kd = 3 ∧ 0 ≤ nn ∧ nn < (n2 : Int)) then 0 else 70) := by
    show _ = _
    unfold symErr
    rw [hlex]
  clear hl hlex
  go_enter Tryd.func94, Tryd.ntmps94
  by_cases h1 : kd = 1
  · have e1 : (kd == 1) = true := by simpa using h1
    have e2 : (kd == 2) = false := by simp [h1]
    have e3 : (kd == 3) = false := by simp [h1]
    by_cases h0 : 0 ≤ nn
    · by_cases hlt : nn < (n : Int)
      · obtain ⟨m, hm⟩ : ∃ m : Nat, nn = (m : Int) := ⟨nn.toNat, by omega⟩
        subst hm
        obtain ⟨x, hx⟩ : ∃ x, lex[m]? = some x := ⟨_, List.getElem?_eq_getElem (by have := HLEN.out; omega)⟩
        obtain ⟨cb, ob, cs, ea, hcb, hlen, hcell, v', hcs, _, _⟩ := HL.out.el hx
        subst ea hcs
        have hb := hcell 1 _ rfl
        have HX := hide1 hx
        have hb2 := grown_cell (HK.out #[.slice (some ⟨cb, ob, none⟩) n c, .slice b n2 c2, .int .i64 st, vp] 26 #[.int .i64 kd, .int .i64 (m : Int)] 68) hb
        obtain ⟨tr, htr⟩ : ∃ tr, x.2.1 = tr := ⟨_, rfl⟩
        rw [htr] at hb hb2
        have HTR := hide1 htr
        clear hx hcell htr
        have hE : symErr lex n2 (kd, (m : Int)) = if tr = true then 71 else 0 := by
          rw [HM.out, if_pos ⟨h1, h0, hlt⟩, Int.toNat_natCast, HX.out, Option.map_some, Option.getD_some, HTR.out]
        have HE := hide1 hE
        clear hE
        have bw : (decide (0 ≤ (m : Int)) && decide ((m : Int) < (n : Int))) = true := by simp; omega
        have gmc : (m : Int) < (c : Int) := by omega
        clear h1 HM HL
        cases tr
        · go_wp2_with (go_at_call 70; refine (within_at _ _ true bw _).mono ?_; rintro e w6 ⟨rfl, rfl⟩)
          go_ret
          exact ⟨by rw [HE.out]; rfl, HK.out _ _ _ _⟩
        · go_wp2_with (go_at_call 70; refine (within_at _ _ true bw _).mono ?_; rintro e w6 ⟨rfl, rfl⟩)
          go_ret
          exact ⟨by rw [HE.out]; rfl, HK.out _ _ _ _⟩
      · have bw : (decide (0 ≤ nn) && decide (nn < (n : Int))) = false := by simp; omega
        have HE : Hid (symErr lex n2 (kd, nn) = 70) := by show _ = _; rw [HM.out, if_neg (by omega), if_neg (by omega)]
        clear h1 h0 hlt HM HL
        go_wp2_with (go_at_call 70; refine (within_at _ _ false bw _).mono ?_; rintro e w6 ⟨rfl, rfl⟩)
        go_ret
        exact ⟨by rw [HE.out]; rfl, HK.out _ _ _ _⟩
    · have bw : (decide (0 ≤ nn) && decide (nn < (n : Int))) = false := by simp; omega
      have HE : Hid (symErr lex n2 (kd, nn) = 70) := by show _ = _; rw [HM.out, if_neg (by omega), if_neg (by omega)]
      clear h1 h0 HM HL
      go_wp2_with (go_at_call 70; refine (within_at _ _ false bw _).mono ?_; rintro e w6 ⟨rfl, rfl⟩)
      go_ret
      exact ⟨by rw [HE.out]; rfl, HK.out _ _ _ _⟩
  · have e1 : (kd == 1) = false := by simpa using h1
    by_cases h2 : kd = 2
    · have e2 : (kd == 2) = true := by simpa using h2
      have e3 : (kd == 3) = false := by simp [h2]
      by_cases h0 : nn = 0
      · have b0 : (nn == 0) = true := by simpa using h0
        have HE : Hid (symErr lex n2 (kd, nn) = 0) := by show _ = _; rw [HM.out, if_neg (by omega), if_pos (.inl ⟨h2, h0⟩)]
        clear h0
        go_wp2_with fail
        go_ret
        exact ⟨by rw [HE.out]; rfl, HK.out _ _ _ _⟩
      · have b0 : (nn == 0) = false := by simpa using h0
        have HE : Hid (symErr lex n2 (kd, nn) = 70) := by show _ = _; rw [HM.out, if_neg (by omega), if_neg (by omega)]
        go_wp2_with fail
        go_ret
        exact ⟨by rw [HE.out]; rfl, HK.out _ _ _ _⟩
    · have e2 : (kd == 2) = false := by simpa using h2
      by_cases h3 : kd = 3
      · have e3 : (kd == 3) = true := by simpa using h3
        obtain ⟨bw, hbw⟩ : ∃ bw, (decide (0 ≤ nn) && decide (nn < (n2 : Int))) = bw := ⟨_, rfl⟩
        have HE : Hid (symErr lex n2 (kd, nn) = if bw = true then 0 else 70) := by
          show _ = _
          rw [HM.out, if_neg (by omega), ← hbw]
          by_cases h : 0 ≤ nn ∧ nn < (n2 : Int)
          · rw [if_pos (.inr ⟨h3, h⟩), if_pos (by simp; omega)]
          · rw [if_neg (by omega), if_neg (by simp; omega)]
        cases bw
        · go_wp2_with (go_at_call 70; refine (within_is _ _ _).mono ?_; rintro e w6 ⟨rfl, rfl⟩; rw [hbw])
          go_ret
          exact ⟨by rw [HE.out]; rfl, HK.out _ _ _ _⟩
        · go_wp2_with (go_at_call 70; refine (within_is _ _ _).mono ?_; rintro e w6 ⟨rfl, rfl⟩; rw [hbw])
          go_ret
          exact ⟨by rw [HE.out]; rfl, HK.out _ _ _ _⟩
      · have e3 : (kd == 3) = false := by simpa using h3
        have HE : Hid (symErr lex n2 (kd, nn) = 70) := by show _ = _; rw [HM.out, if_neg (by omega), if_neg (by omega)]
        go_wp2_with fail
        go_ret
        exact ⟨by rw [HE.out]; rfl, HK.out _ _ _ _⟩

end Ex
end Go.Proofs.YtggodknnfpegmaaDoor
namespace Go.Proofs.YtggodknnfpegmaaDoor
open Go.RowKit
attribute [local go_sem] Oper.semAt_some
namespace Ex

/-- The first symbol of a row that is none, and why. -/
def wrongF {k : Nat} (lex : List (LexM k)) (names : Nat) : Nat → List SymM → Int × Int
  | _, [] => (0, 0)
  | i, x :: r => if symErr lex names x = 0 then wrongF lex names (i + 1) r else ((i : Int), symErr lex names x)
def wrongP {k : Nat} (lex : List (LexM k)) (names : Nat) (row : List SymM) : Int × Int := wrongF lex names 0 row
/-- A spec in a box. -/
def SBox (w : World) (g : Nat) (x0 x1 x2 x3 : Value) : Prop := w.heap[g]? = some (.cells #[x0, x1, x2, x3] 26 (0, 0))
theorem SBox.facts {w : World} {g : Nat} {x0 x1 x2 x3 : Value} (h : SBox w g x0 x1 x2 x3) : w.cell? ⟨g, 0, none⟩ = some x0 ∧ w.cell? ⟨g, 1, none⟩ = some x1 ∧ w.cell? ⟨g, 2, none⟩ = some x2 ∧ w.cell? ⟨g, 3, none⟩ = some x3 := by
  unfold SBox at h
  refine ⟨?_, ?_, ?_, ?_⟩ <;> simp [World.cell?, h]
theorem SBox.lt {w : World} {g : Nat} {x0 x1 x2 x3 : Value} (h : SBox w g x0 x1 x2 x3) : g < w.heap.size := (Array.getElem?_eq_some_iff.1 h).1
theorem SBox.keep {w w' : World} {g : Nat} {x0 x1 x2 x3 : Value} (h : SBox w g x0 x1 x2 x3) (hk : Kept w w') : SBox w' g x0 x1 x2 x3 := (hk.2.2.2.2 g h.lt).trans h
theorem SBox.new (w : World) (x0 x1 x2 x3 : Value) : SBox (w.alloc (.cells #[x0, x1, x2, x3] 26)) w.heap.size x0 x1 x2 x3 := heap_alloc_new w _
/-- The loop of firstWrong. -/
def FwR {k : Nat} (lex : List (LexM k)) (names : Nat) (row : List SymM) (w : World) (vi : Value) (wr : World) : Prop := ∃ j : Nat, vi = .int .i64 (j : Int) ∧ j ≤ row.length ∧ Hid (wrongP lex names row = wrongF lex names j (row.drop j)) ∧ Hid (Kept w wr)
set_option linter.unusedSimpArgs false in
set_option maxRecDepth 100000 in
set_option maxHeartbeats 4000000 in
theorem firstWrong_is (k : Nat) (a b ar : Option Addr) (n c n2 c2 nr cr : Nat) (lex : List (LexM k)) (row : List SymM) (hlex : lex.length = n) (hrow : row.length = nr) (hn2 : n2 ≤ 17592186044416) (vp : Value) (st : Int) (w : World) (hl : LexAt w k (.slice a n c) lex) (hr : RightAt w (.slice ar nr cr) row) :
    Calls Tryd.prog 69 #[.agg #[.slice a n c, .slice b n2 c2, .int .i64 st, vp], .slice ar nr cr] w fun e w' => e = .returned (.tuple #[.int .i64 (wrongP lex n2 row).1, .int .i64 (wrongP lex n2 row).2]) ∧ Kept w w' := by
  have HL := hide1 hl
  have HR := hide1 hr
  have HLEN := hide1 hlex
  have HROW := hide1 hrow
  have HN2 := hide1 hn2
  obtain ⟨_, _, e1, hc, hn⟩ := hr.len
  simp only [Value.slice.injEq] at e1
  obtain ⟨rfl, en, rfl⟩ := e1
  clear en
  rw [hrow] at hc hn
  have gn : (nr : Int) ≤ 17592186044416 := by omega
  have HBX := hide1 (SBox.new w (.slice a n c) (.slice b n2 c2) (.int .i64 st) vp)
  have HK1 : Hid (Kept w (w.alloc (.cells #[.slice a n c, .slice b n2 c2, .int .i64 st, vp] 26))) := (Kept.refl w).alloc _ _
  clear hl hr hlex hrow hn2
  go_enter Tryd.func69, Tryd.ntmps69
  go_upto_region 1 with fail
  obtain ⟨W, hW⟩ : ∃ W, w.alloc (.cells #[.slice a n c, .slice b n2 c2, .int .i64 st, vp] 26) = W := ⟨_, rfl⟩
  rw [hW] at HBX HK1 ⊢
  obtain ⟨g, hg⟩ : ∃ g, w.heap.size = g := ⟨_, rfl⟩
  rw [hg] at HBX ⊢
  clear hW hg
  go_wp2_with fail
  go_loopw [11] (FwR lex n2 row W) (fun i _ => nr - (intOf i).toNat)
  case atStart => exact ⟨0, rfl, Nat.zero_le _, rfl, Kept.refl W⟩
  case round =>
    obtain ⟨j, rfl, hj, HF, HKr⟩ := hrel
    rw [HROW.out] at hj
    by_cases hlt : (j : Int) < (nr : Int)
    · obtain ⟨x, hx⟩ : ∃ x, row[j]? = some x := ⟨_, List.getElem?_eq_getElem (by have := HROW.out; omega)⟩
      have HKw := hide1 (gtrans HK1.out HKr.out)
      obtain ⟨cb, ob, cs, ea, hcb, hlen, hcell, hcs⟩ := SliceOf.el (HR.out.keep HKw.out) hx
      have hcs : cs = [.int .i64 x.1, .int .i64 x.2] := hcs
      subst ea hcs
      have k0 := hcell 0 _ rfl
      have k1 := hcell 1 _ rfl
      have k0 : wr.cell? ⟨cb, ob + j * 2, none⟩ = some (.int .i64 x.1) := k0
      obtain ⟨kd, nn⟩ := x
      have HD : Hid (row.drop j = (kd, nn) :: row.drop (j + 1)) := by
        obtain ⟨hj2, e⟩ := List.getElem?_eq_some_iff.1 hx
        show _ = _
        rw [List.drop_eq_getElem_cons hj2, e]
      obtain ⟨er, her⟩ : ∃ er, symErr lex n2 (kd, nn) = er := ⟨_, rfl⟩
      have HER := hide1 her
      have gjc : (j : Int) < (cr : Int) := by omega
      clear hx hcell her
      obtain ⟨s0, s1, s2, s3⟩ := (HBX.out.keep HKr.out).facts
      have HK3 : Hid (Kept wr (wr.alloc (.cells #[.int .i64 kd, .int .i64 nn] 68))) := (Kept.refl wr).alloc _ _
      have t0 := grown_cell HK3.out s0
      have t1 := grown_cell HK3.out s1
      have t2 := grown_cell HK3.out s2
      have t3 := grown_cell HK3.out s3
      by_cases h0 : er = 0
      · have b0 : (er != 0) = false := by simp [h0]
        have HF2 : Hid (wrongP lex n2 row = wrongF lex n2 (j + 1) (row.drop (j + 1))) := by
          show _ = _
          rw [HF.out, HD.out]
          show (if symErr lex n2 (kd, nn) = 0 then _ else _) = _
          rw [HER.out, if_pos h0]
        clear h0
        go_wp2_with (go_at_call 94; refine (checkSymbol_is k a b n c n2 c2 lex HLEN.out HN2.out vp st kd nn _ (HL.out.keep (gtrans HKw.out HK3.out))).mono ?_; rintro e w6 ⟨rfl, hk6⟩; rw [HER.out]; have HK6 := hide1 (gtrans HKr.out (gtrans HK3.out hk6)); clear hk6)
        go_roundw
        case rel => exact ⟨j + 1, by go_num, by rw [HROW.out]; omega, HF2, HK6⟩
        case measure => simp [intOf]; omega
      · have b0 : (er != 0) = true := by simpa using h0
        have HF2 : Hid (wrongP lex n2 row = ((j : Int), er)) := by
          show _ = _
          rw [HF.out, HD.out]
          show (if symErr lex n2 (kd, nn) = 0 then _ else _) = _
          rw [HER.out, if_neg h0]
        clear h0
        go_wp2_with (go_at_call 94; refine (checkSymbol_is k a b n c n2 c2 lex HLEN.out HN2.out vp st kd nn _ (HL.out.keep (gtrans HKw.out HK3.out))).mono ?_; rintro e w6 ⟨rfl, hk6⟩; rw [HER.out]; have HK6 := hide1 (gtrans HKr.out (gtrans HK3.out hk6)); clear hk6)
        go_ret2
        exact ⟨by rw [HF2.out]; rfl, gtrans HK1.out HK6.out⟩
    · have HF2 : Hid (wrongP lex n2 row = (0, 0)) := by
        show _ = _
        rw [HF.out, List.drop_of_length_le (by have := HROW.out; omega)]
        rfl
      go_wp2_with fail
      go_ret2
      exact ⟨by rw [HF2.out]; rfl, gtrans HK1.out HKr.out⟩

end Ex
end Go.Proofs.YtggodknnfpegmaaDoor
