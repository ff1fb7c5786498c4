import Derived.Test.YtfajoknacfjedaaGreatDoorMExX5
import Derived.Deep.RegionHeld3
import Derived.Laws.Bits64b
import Derived.Lib.TrailingZeros
import Derived.Deep.AppendLies
import Derived.Deep.DeepMust
import Derived.OwnWalk
namespace Go.Proofs.YtfajoknacfjedaaGreatDoor
open Go.RowKit
attribute [local go_sem] Oper.semAt_some
namespace Ex

/-- What leanParts does with the parts of p. -/
def PartsC (n : Nat) (p : PatN (n + 1)) (R : Int → List Pat) : Prop :=
  ∀ (S : Nat → Prop) (vk : Value) (k : Int) (w : World), KidsAt S w n (kids p) vk → (∀ d, S d → d < w.heap.size) → 0 ≤ k → k ≤ 10 →
    Calls Tryz.prog 82 #[vk, .int .i64 k] w fun r w' => Hid (∃ v, r = .returned v ∧ PatsOwn w' w.heap.size (fun d => S d ∨ w.heap.size ≤ d) v (R k)) ∧ Kept w w'

theorem thin_box {w w7 : World} {o : Obj} (h : Kept ((w.alloc o).alloc (.cells #[.int .i64 0, .int .i64 0, .int .i64 0, .int .i64 0, .int .i64 0, .slice none 0 0] 24)) w7) : BoxAt w7 (w.heap.size + 1) (.int .i64 0) (.int .i64 0) (.int .i64 0) (.int .i64 0) (.int .i64 0) (.slice none 0 0) := by
  have h1 : BoxAt ((w.alloc o).alloc (.cells #[.int .i64 0, .int .i64 0, .int .i64 0, .int .i64 0, .int .i64 0, .slice none 0 0] 24)) (w.heap.size + 1) (.int .i64 0) (.int .i64 0) (.int .i64 0) (.int .i64 0) (.int .i64 0) (.slice none 0 0) := heap_alloc2_new w _ _
  exact h1.keep h
theorem thin_own {w w7 : World} {o o2 : Obj} {S : Nat → Prop} {v : Value} {l : List Pat} (h : PatsOwn w7 ((w.alloc o).alloc o2).heap.size (fun d => S d ∨ ((w.alloc o).alloc o2).heap.size ≤ d) v l) (_hS : ∀ d, S d → d < w.heap.size) : PatsOwn w7 (w.heap.size + 2) (fun d => S d ∨ w.heap.size + 2 ≤ d) v l := by
  have e : ((w.alloc o).alloc o2).heap.size = w.heap.size + 2 := by simp
  rw [e] at h
  exact h
/-- The end with a list. -/
theorem thin_list {w wr : World} {S : Nat → Prop} {l : List Pat} {v : Value} {kd : Int} (ho : PatsOwn wr (w.heap.size + 2) (fun d => S d ∨ w.heap.size + 2 ≤ d) v l) (hS : ∀ d, S d → d < w.heap.size) (hb : l.length ≤ 100000) :
    PGives (fun d => S d ∨ w.heap.size ≤ d) (mkP kd 0 0 0 0 l) (.returned (.agg #[.int .i64 kd, .int .i64 0, .int .i64 0, .int .i64 0, .int .i64 0, v])) ((((((wr.setCell ⟨w.heap.size + 1, 0, none⟩ (.int .i64 kd)).setCell ⟨w.heap.size + 1, 1, none⟩ (.int .i64 0)).setCell ⟨w.heap.size + 1, 2, none⟩ (.int .i64 0)).setCell ⟨w.heap.size + 1, 3, none⟩ (.int .i64 0)).setCell ⟨w.heap.size + 1, 4, none⟩ (.int .i64 0)).setCell ⟨w.heap.size + 1, 5, none⟩ v) :=
  ⟨_, rfl, v, rfl, KidsAt.mono (set6_holds (S := fun d => S d ∨ w.heap.size + 2 ≤ d) (fun h => by rcases h with h | h; (have := hS _ h; omega); omega)) (fun d h => by rcases h with h | h; exact Or.inl h; exact Or.inr (by omega)) _ _ _ (ho.kids (fun d h => Or.inr h) (Nat.le_refl _) (by omega))⟩
theorem thin_one {w wr : World} {S : Nat → Prop} {p : Pat} {u : Value} {x0 x1 x2 x3 x4 x5 : Value} (hk : KidsAt (fun d => S d ∨ w.heap.size + 2 ≤ d) wr p.1 (kids p.2) u) (hS : ∀ d, S d → d < w.heap.size) :
    PGives (fun d => S d ∨ w.heap.size ≤ d) p (.returned (.agg #[.int .i64 (kind p.2), .int .i64 (from_ p.2), .int .i64 (to_ p.2), .int .i64 (min_ p.2), .int .i64 (max_ p.2), u])) ((((((wr.setCell ⟨w.heap.size + 1, 0, none⟩ x0).setCell ⟨w.heap.size + 1, 1, none⟩ x1).setCell ⟨w.heap.size + 1, 2, none⟩ x2).setCell ⟨w.heap.size + 1, 3, none⟩ x3).setCell ⟨w.heap.size + 1, 4, none⟩ x4).setCell ⟨w.heap.size + 1, 5, none⟩ x5) :=
  ⟨_, rfl, u, rfl, KidsAt.mono (set6_holds (S := fun d => S d ∨ w.heap.size + 2 ≤ d) (fun h => by rcases h with h | h; (have := hS _ h; omega); omega)) (fun d h => by rcases h with h | h; exact Or.inl h; exact Or.inr (by omega)) _ _ _ hk⟩

set_option linter.unusedSimpArgs false in
set_option maxRecDepth 100000 in
set_option maxHeartbeats 4000000 in
theorem thin_flat (n : Nat) (p : PatN (n + 1)) (R : Int → List Pat) (hR : PartsC n p R) (hl : ∀ k, (R k).length ≤ 100000) (h4 : kind p ≠ 4) (r : Pat) (hr2 : kind p = 2 → r = mkP 2 0 0 0 0 (R 0)) (hr3 : kind p = 3 → r = oneOf 3 (R 1)) (hr1 : kind p ≠ 2 → kind p ≠ 3 → r = ⟨n, p⟩) : ThinC n p r := by
  intro S vk w hk hS
  have HK := hide1 hk
  have HS := hide1 hS
  have HR := hide1 hR
  have HL := hide1 hl
  obtain ⟨ak, ck, rfl⟩ := hk.form
  rw [valOf_eq]
  obtain ⟨kd, hkd⟩ : ∃ x, kind p = x := ⟨_, rfl⟩
  have HKD := hide1 hkd
  rw [hkd] at hr1 hr2 hr3 h4 ⊢
  clear hS hR hl hkd
  go_enter Tryz.func63, Tryz.ntmps63
  by_cases h2 : kd = 2
  · have hr := hr2 h2
    subst hr
    clear hr1 hr2 hr3 h4
    subst h2
    have hl0 := HL.out 0
    obtain ⟨l, hll⟩ : ∃ l, R 0 = l := ⟨_, rfl⟩
    have HLL := hide1 hll
    rw [hll] at hl0 ⊢
    clear hll
    go_wp2_with (first
      | (go_at_call 82; refine (HR.out S _ 0 _ (HK.out.kept (((Kept.refl _).alloc _ _).alloc _ _)) (fun d hd => by have := HS.out d hd; simp; omega) (by omega) (by omega)).mono ?_; rintro r7 w7 ⟨hv, hk7⟩; obtain ⟨v7, rfl, ho7⟩ := hv.out; rw [HLL.out] at ho7; have HBZ := hide1 (thin_box hk7); have HK7 := hide1 (gtrans (((Kept.refl w).alloc _ _).alloc _ _) hk7); have ho7' := thin_own ho7 HS.out; obtain ⟨a7, c7, e7⟩ := ho7'.form; subst e7; have HOW := hide1 ho7'; obtain ⟨⟨p0, p1, p2, p3, p4, p5⟩, x0, x1, x2, x3, x4, x5⟩ := HBZ.out.facts; have hs7 := HBZ.out.lt; clear hv hk7 ho7 ho7'))
    (try simp only [Exit.inBlock, Exit.then])
    refine bodyPost_ret (box_returns rfl _ _ (w.heap.size + 1) _ _ _ _ _ _ rfl (BoxAt.set HBZ.out)) rfl ?_
    exact ⟨thin_list HOW.out HS.out (by omega), kept6 HK7.out (by omega)⟩
  · by_cases h3 : kd = 3
    · have hr := hr3 h3
      subst hr
      clear hr1 hr2 hr3 h4
      subst h3
      have hl0 := HL.out 1
      obtain ⟨l, hll⟩ : ∃ l, R 1 = l := ⟨_, rfl⟩
      have HLL := hide1 hll
      rw [hll] at hl0 ⊢
      clear hll
      by_cases hl1 : l.length = 1
      · obtain ⟨q, rfl⟩ := list_one hl1
        clear hl1
        go_wp2_with (first
          | (go_at_call 82; refine (HR.out S _ 1 _ (HK.out.kept (((Kept.refl _).alloc _ _).alloc _ _)) (fun d hd => by have := HS.out d hd; simp; omega) (by omega) (by omega)).mono ?_; rintro r7 w7 ⟨hv, hk7⟩; obtain ⟨v7, rfl, ho7⟩ := hv.out; rw [HLL.out] at ho7; have HBZ := hide1 (thin_box hk7); have HK7 := hide1 (gtrans (((Kept.refl w).alloc _ _).alloc _ _) hk7); have ho7' := thin_own ho7 HS.out; obtain ⟨a7, c7, e7⟩ := ho7'.form; subst e7; have HOW := hide1 ho7'; obtain ⟨gg, hgv, hcv⟩ := HOW.out.nonnil; subst hgv; have hcv2 : (1 : Int) ≤ (c7 : Int) := (by omega); obtain ⟨u, ⟨m0, m1, m2, m3, m4, m5⟩, hu⟩ := HOW.out.one_facts; have HU := hide1 hu; obtain ⟨ua, uc, rfl⟩ := hu.form; clear hu; obtain ⟨⟨p0, p1, p2, p3, p4, p5⟩, x0, x1, x2, x3, x4, x5⟩ := HBZ.out.facts; have hs7 := HBZ.out.lt; clear hv hk7 ho7 ho7'))
        (try simp only [Exit.inBlock, Exit.then])
        refine bodyPost_ret (box_returns rfl _ _ (w.heap.size + 1) _ _ _ _ _ _ rfl (BoxAt.set HBZ.out)) rfl ?_
        exact ⟨thin_one (p := q) HU.out HS.out, kept6 HK7.out (by omega)⟩
      · have hl1a : ¬ (l.length : Int) = 1 := by omega
        rw [oneOf_more hl1]
        clear hl1
        go_wp2_with (first
          | (go_at_call 82; refine (HR.out S _ 1 _ (HK.out.kept (((Kept.refl _).alloc _ _).alloc _ _)) (fun d hd => by have := HS.out d hd; simp; omega) (by omega) (by omega)).mono ?_; rintro r7 w7 ⟨hv, hk7⟩; obtain ⟨v7, rfl, ho7⟩ := hv.out; rw [HLL.out] at ho7; have HBZ := hide1 (thin_box hk7); have HK7 := hide1 (gtrans (((Kept.refl w).alloc _ _).alloc _ _) hk7); have ho7' := thin_own ho7 HS.out; obtain ⟨a7, c7, e7⟩ := ho7'.form; subst e7; have HOW := hide1 ho7'; obtain ⟨⟨p0, p1, p2, p3, p4, p5⟩, x0, x1, x2, x3, x4, x5⟩ := HBZ.out.facts; have hs7 := HBZ.out.lt; clear hv hk7 ho7 ho7'))
        (try simp only [Exit.inBlock, Exit.then])
        refine bodyPost_ret (box_returns rfl _ _ (w.heap.size + 1) _ _ _ _ _ _ rfl (BoxAt.set HBZ.out)) rfl ?_
        exact ⟨thin_list HOW.out HS.out (by omega), kept6 HK7.out (by omega)⟩
    · have hr := hr1 h2 h3
      subst hr
      clear hr1 hr2 hr3
      go_wp2_with fail
      (try simp only [Exit.inBlock, Exit.then])
      refine bodyPost_ret (box_returns rfl _ _ (w.heap.size + 1) _ _ _ _ _ _ rfl (by first | exact heap_alloc2_new w _ _ | exact BoxAt.set (heap_alloc2_new w _ _))) rfl ?_
      refine ⟨⟨_, rfl, .slice ak (kids p).length ck, by rw [valOf_eq, HKD.out], ?_⟩, ((Kept.refl w).alloc _ _).alloc _ _⟩
      exact KidsAt.mono ((((Kept.refl w).alloc _ _).alloc _ _).holds _) (fun d h => Or.inl h) _ _ _ HK.out

end Ex
end Go.Proofs.YtfajoknacfjedaaGreatDoor
namespace Go.Proofs.YtfajoknacfjedaaGreatDoor
open Go.RowKit
attribute [local go_sem] Oper.semAt_some
namespace Ex

/-- A set of places as one number: word i of it. -/
def wordAt (A i : Nat) : Nat := A / 2 ^ (64 * i) % 18446744073709551616
/-- Its 65 words, as they lie in memory. -/
def setL (A : Nat) : List Value := (List.range 65).map fun i => Value.int .u64 (wordAt A i : Nat)
def setV (A : Nat) : Array Value := (setL A).toArray
theorem setL_len (A : Nat) : (setL A).length = 65 := by simp [setL]
theorem setV_size (A : Nat) : (setV A).size = 65 := by simp [setV, setL]
theorem setV_at (A : Nat) {i : Nat} (h : i < 65) : (setV A)[i]? = some (.int .u64 (wordAt A i : Nat)) := by
  simp [setV, setL, h]
theorem setL_one (A : Nat) : ∀ v ∈ setL A, v.oneCell' = true := by
  intro x hx
  simp only [setL, List.mem_map] at hx
  obtain ⟨i, _, rfl⟩ := hx
  rfl
theorem word_lt (A i : Nat) : wordAt A i < 18446744073709551616 := Nat.mod_lt _ (by decide)
theorem word_bit (A i j : Nat) : (wordAt A i).testBit j = (decide (j < 64) && A.testBit (64 * i + j)) := by
  unfold wordAt
  rw [show (18446744073709551616 : Nat) = 2 ^ 64 by decide, Nat.testBit_mod_two_pow, Nat.testBit_div_two_pow, Nat.add_comm]
/-- The sets' bound. -/
def bitsN : Nat := 4160
def top : Nat := 2 ^ bitsN
theorem bit_top {A j : Nat} (h : A < top) (hj : ¬ j < 4160) : A.testBit j = false := by
  have hb : bitsN ≤ j := by unfold bitsN; omega
  exact Nat.testBit_lt_two_pow (Nat.lt_of_lt_of_le h (Nat.pow_le_pow_right (by decide) hb))
theorem top_or {A B : Nat} (hA : A < top) (hB : B < top) : A ||| B < top := Nat.or_lt_two_pow hA hB
theorem top_pow {p : Nat} (h : p < 4160) : 2 ^ p < top := Nat.pow_lt_pow_right (by decide) (show p < bitsN from h)
theorem top_zero : 0 < top := Nat.pow_pos (by decide)
theorem set_ext {A B : Nat} (hA : A < top) (hB : B < top) (h : ∀ i, i < 65 → wordAt A i = wordAt B i) : A = B := by
  apply Nat.eq_of_testBit_eq
  intro j
  by_cases hj : j < 4160
  · have := congrArg (fun x => x.testBit (j % 64)) (h (j / 64) (by omega))
    simp only [word_bit] at this
    rw [show 64 * (j / 64) + j % 64 = j by omega] at this
    simpa [show j % 64 < 64 by omega] using this
  · rw [bit_top hA hj, bit_top hB hj]
theorem word_or (A B i : Nat) : wordAt (A ||| B) i = wordAt A i ||| wordAt B i := by
  apply Nat.eq_of_testBit_eq
  intro j
  simp only [word_bit, Nat.testBit_or]
  cases decide (j < 64) <;> simp
theorem word_shift {x : Nat} (k i : Nat) (hx : x < 18446744073709551616) : wordAt (x * 2 ^ (64 * k)) i = if k = i then x else 0 := by
  apply Nat.eq_of_testBit_eq
  intro j
  rw [word_bit, Nat.testBit_mul_two_pow]
  have hb : ∀ m, 64 ≤ m → x.testBit m = false := fun m hm => Nat.testBit_lt_two_pow (Nat.lt_of_lt_of_le hx (by rw [show (18446744073709551616 : Nat) = 2 ^ 64 by decide]; exact Nat.pow_le_pow_right (by decide) hm))
  by_cases h : k = i
  · subst h
    rw [if_pos rfl]
    by_cases hj : j < 64
    · simp [hj, show 64 * k + j - 64 * k = j by omega]
    · simp [hj, hb j (by omega)]
  · rw [if_neg h]
    by_cases hj : j < 64
    · by_cases hk : 64 * k ≤ 64 * i + j
      · simp [hb (64 * i + j - 64 * k) (by omega)]
      · simp [hk]
    · simp [hj]
theorem setV_or (A k x : Nat) (hk : k < 65) (hx : x < 18446744073709551616) {v : Value} (hv : v = .int .u64 ((wordAt A k ||| x : Nat) : Int)) : (setV A).setIfInBounds k v = setV (A ||| x * 2 ^ (64 * k)) := by
  subst hv
  apply Array.ext_getElem?
  intro i
  rw [Array.getElem?_setIfInBounds, setV_size]
  by_cases hi : i < 65
  · rw [setV_at _ hi, setV_at _ hi, word_or, word_shift k i hx]
    by_cases h : k = i
    · subst h; simp [hi]
    · simp [h]
  · have h1 : ∀ B, (setV B)[i]? = none := fun B => by rw [Array.getElem?_eq_none_iff, setV_size]; omega
    rw [h1, h1, if_neg (by omega)]
theorem pow_split (p : Nat) : 2 ^ (p % 64) * 2 ^ (64 * (p / 64)) = 2 ^ p := by
  rw [← Nat.pow_add, show p % 64 + 64 * (p / 64) = p by omega]
theorem pow_lt (p : Nat) : 2 ^ (p % 64) < 18446744073709551616 := by
  rw [show (18446744073709551616 : Nat) = 2 ^ 64 by decide]
  exact Nat.pow_lt_pow_right (by decide) (Nat.mod_lt _ (by decide))
theorem or_word (a b : Nat) (ha : a < 18446744073709551616) (hb : b < 18446744073709551616) : bits BinOp.or IntKind.u64 (a : Int) (b : Int) = ((a ||| b : Nat) : Int) := bits_or_u64_nat a b ha hb
theorem or_put (A p : Nat) : bits BinOp.or IntKind.u64 ((wordAt A (p / 64) : Nat) : Int) (IntKind.u64.wrap (2 ^ (p % 64))) = ((wordAt A (p / 64) ||| 2 ^ (p % 64) : Nat) : Int) := by
  have h : IntKind.u64.wrap (2 ^ (p % 64)) = ((2 ^ (p % 64) : Nat) : Int) := by
    rw [IntKind.wrap_u64]
    have := pow_lt p
    have e : (2 : Int) ^ (p % 64) = ((2 ^ (p % 64) : Nat) : Int) := by simp
    rw [e]
    exact Int.emod_eq_of_lt (Int.natCast_nonneg _) (by omega)
  rw [h, or_word _ _ (word_lt _ _) (pow_lt p)]

theorem bit_and_one (A p : Nat) : (bits BinOp.and IntKind.u64 ((wordAt A (p / 64) : Nat) / 2 ^ (p % 64) : Int) 1 == 1) = A.testBit p := by
  have h1 : ((wordAt A (p / 64) : Nat) / 2 ^ (p % 64) : Int) = ((wordAt A (p / 64) / 2 ^ (p % 64) : Nat) : Int) := by simp
  have h2 : wordAt A (p / 64) / 2 ^ (p % 64) < 18446744073709551616 := Nat.lt_of_le_of_lt (Nat.div_le_self _ _) (word_lt _ _)
  rw [h1, show (1 : Int) = ((1 : Nat) : Int) by rfl, bits_and_u64_nat _ _ h2 (by decide)]
  have h3 : A.testBit p = (wordAt A (p / 64)).testBit (p % 64) := by
    rw [word_bit, show 64 * (p / 64) + p % 64 = p by omega]
    simp [show p % 64 < 64 by omega]
  rw [h3, Nat.testBit_eq_decide_div_mod_eq, Nat.and_one_is_mod]
  rw [Bool.eq_iff_iff]
  simp
  omega

/-- A set that lies in block b, alone. -/
def SetAt (w : World) (b A : Nat) : Prop := w.heap[b]? = some (.cells (setV A) 98 (0, 0))
theorem SetAt.cell {w : World} {b A i : Nat} (h : SetAt w b A) (hi : i < 65) : w.cell? ⟨b, i, none⟩ = some (.int .u64 (wordAt A i : Nat)) := by
  unfold SetAt at h
  simp only [World.cell?, h]
  exact setV_at A hi
theorem SetAt.free {w : World} {b A : Nat} (i : Nat) (h : SetAt w b A) : w.frozen? ⟨b, i, none⟩ = false := by
  unfold SetAt at h
  simp [World.frozen?, h]

set_option linter.unusedSimpArgs false in
set_option maxRecDepth 100000 in
set_option maxHeartbeats 2000000 in
theorem has_is (A p : Nat) (hp : p < 4160) (w : World) : Calls Tryz.prog 66 #[.agg (setV A), .int .i64 (p : Int)] w fun e w' => e = .returned (.bool (A.testBit p)) ∧ Kept w w' := by
  have gp : (p : Int) < 4160 := by omega
  have hq := setV_at A (i := p / 64) (by omega)
  go_enter Tryz.func66, Tryz.ntmps66
  go_wp2
  go_ret
  refine ⟨?_, (Kept.refl w).alloc _ _⟩
  rw [bit_and_one]
  rfl

theorem SetAt.or {w : World} {b A k x : Nat} {v : Value} (h : SetAt w b A) (hk : k < 65) (hx : x < 18446744073709551616) (hv : v = .int .u64 ((wordAt A k ||| x : Nat) : Int)) : SetAt (w.setCell ⟨b, k, none⟩ v) b (A ||| x * 2 ^ (64 * k)) := by
  unfold SetAt at h ⊢
  have hl : b < w.heap.size := (Array.getElem?_eq_some_iff.1 h).1
  have he : w.heap[b] = Obj.cells (setV A) 98 (0, 0) := by rw [Array.getElem?_eq_getElem hl] at h; exact Option.some.inj h
  rw [← setV_or A k x hk hx hv]
  simp [World.setCell, Array.getElem_modify, hl, he]
theorem SetAt.lt {w : World} {b A : Nat} (h : SetAt w b A) : b < w.heap.size := (Array.getElem?_eq_some_iff.1 h).1
theorem SetAt.keep {w w' : World} {b A : Nat} (h : SetAt w b A) (hk : Kept w w') : SetAt w' b A := (hk.2.2.2.2 b h.lt).trans h
theorem SetAt.but {w w' : World} {b c A : Nat} (h : SetAt w b A) (hk : KeptBut c w w') (hc : b ≠ c) : SetAt w' b A := (hk.2.2.2.2 b h.lt hc).trans h
theorem SetAt.new (w : World) (A : Nat) : SetAt (w.alloc (.cells (setV A) 98)) w.heap.size A := heap_alloc_new w _

set_option linter.unusedSimpArgs false in
set_option maxRecDepth 100000 in
set_option maxHeartbeats 2000000 in
theorem put_is (A b p : Nat) (hp : p < 4160) (w : World) (h : SetAt w b A) : Calls Tryz.prog 84 #[.pointer (some ⟨b, 0, none⟩), .int .i64 (p : Int)] w fun e w' => e = .returned (.tuple #[]) ∧ KeptBut b w w' ∧ SetAt w' b (A ||| 2 ^ p) := by
  have gp : (p : Int) < 4160 := by omega
  have hq := h.cell (i := p / 64) (by omega)
  have hf := h.free (p / 64)
  have HA := hide1 h
  clear h
  go_enter Tryz.func84, Tryz.ntmps84
  go_wp2_with (go_region)
  go_end0
  refine ⟨rfl, (setCell_but _ _ _ _).trans ((drew_kept _).but b), ?_⟩
  have := HA.out.or (k := p / 64) (by omega) (pow_lt p) (congrArg (Value.int .u64) (or_put A p))
  rw [pow_split] at this
  exact this

/-- A set's words that are not 0, each with its place: of the first j. -/
def chunkTo (A j : Nat) : List (Nat × Nat) := ((List.range j).filter fun i => wordAt A i != 0).map fun i => (i, wordAt A i)
def chunkL (A : Nat) : List (Nat × Nat) := chunkTo A 65
theorem chunkTo_succ (A j : Nat) : chunkTo A (j + 1) = if wordAt A j = 0 then chunkTo A j else chunkTo A j ++ [(j, wordAt A j)] := by
  unfold chunkTo
  rw [List.range_succ, List.filter_append, List.map_append]
  by_cases h : wordAt A j = 0 <;> simp [h]
theorem chunkTo_len (A j : Nat) : (chunkTo A j).length ≤ j := by
  unfold chunkTo
  rw [List.length_map]
  exact Nat.le_trans (List.length_filter_le _ _) (by simp)
def chunkC (l : List (Nat × Nat)) : List Value := l.flatMap fun c => [.int .i64 (c.1 : Int), .int .u64 (c.2 : Int)]
theorem chunkC_snoc (l : List (Nat × Nat)) (c : Nat × Nat) : chunkC (l ++ [c]) = chunkC l ++ [.int .i64 (c.1 : Int), .int .u64 (c.2 : Int)] := by
  unfold chunkC
  rw [List.flatMap_append]
  rfl
theorem chunkC_at : ∀ (l : List (Nat × Nat)) (i : Nat) (c : Nat × Nat), l[i]? = some c → (chunkC l)[i * 2]? = some (.int .i64 (c.1 : Int)) ∧ (chunkC l)[i * 2 + 1]? = some (.int .u64 (c.2 : Int))
  | [], i, c, h => by simp at h
  | d :: l, 0, c, h => by
    simp only [List.getElem?_cons_zero, Option.some.injEq] at h
    subst h
    exact ⟨rfl, rfl⟩
  | d :: l, i + 1, c, h => by
    rw [List.getElem?_cons_succ] at h
    have := chunkC_at l i c h
    have e : chunkC (d :: l) = .int .i64 (d.1 : Int) :: .int .u64 (d.2 : Int) :: chunkC l := rfl
    rw [e, show (i + 1) * 2 = i * 2 + 2 by omega, show i * 2 + 2 + 1 = i * 2 + 1 + 2 by omega]
    simp only [List.getElem?_cons_succ]
    exact this
/-- Chunks joined to a set. -/
def joinG (A : Nat) (l : List (Nat × Nat)) : Nat := l.foldl (fun A c => A ||| c.2 * 2 ^ (64 * c.1)) A
theorem joinG_snoc (A : Nat) (l : List (Nat × Nat)) (c : Nat × Nat) : joinG A (l ++ [c]) = joinG A l ||| c.2 * 2 ^ (64 * c.1) := by
  unfold joinG
  rw [List.foldl_append]
  rfl
theorem joinG_bit (A B : Nat) : ∀ (j m : Nat), m < 64 * j → (joinG A (chunkTo B j)).testBit m = (A.testBit m || B.testBit m)
  | 0, m, h => by omega
  | j + 1, m, h => by
    rw [chunkTo_succ]
    have hw : ∀ n, 64 * j ≤ n → n < 64 * (j + 1) → B.testBit n = (wordAt B j).testBit (n - 64 * j) := fun n h1 h2 => by
      rw [word_bit, show 64 * j + (n - 64 * j) = n by omega]
      simp [show n - 64 * j < 64 by omega]
    have hhi : ∀ n, 64 * j ≤ n → (joinG A (chunkTo B j)).testBit n = A.testBit n := fun n hn => by
      have key : ∀ (i : Nat), i ≤ j → (joinG A (chunkTo B i)).testBit n = A.testBit n := by
        intro i
        induction i with
        | zero => intro _; rfl
        | succ i ih =>
          intro hi
          rw [chunkTo_succ]
          split
          · exact ih (by omega)
          · rw [joinG_snoc, Nat.testBit_or, ih (by omega), Nat.testBit_mul_two_pow]
            have hb : (wordAt B i).testBit (n - 64 * i) = false := by rw [word_bit]; simp; omega
            simp [hb]
      exact key j (Nat.le_refl _)
    by_cases hm : m < 64 * j
    · have ih := joinG_bit A B j m hm
      split
      · exact ih
      · rw [joinG_snoc, Nat.testBit_or, ih, Nat.testBit_mul_two_pow]
        simp [show ¬ 64 * j ≤ m by omega]
    · split
      · rename_i h0
        rw [hhi m (by omega), hw m (by omega) h, h0]
        simp
      · rw [joinG_snoc, Nat.testBit_or, hhi m (by omega), hw m (by omega) h, Nat.testBit_mul_two_pow]
        simp [show 64 * j ≤ m by omega]
theorem joinG_top {A : Nat} (B : Nat) (hA : A < top) : ∀ (j : Nat), j ≤ 65 → joinG A (chunkTo B j) < top
  | 0, _ => hA
  | j + 1, h => by
    have ih := joinG_top B hA j (by omega)
    rw [chunkTo_succ]
    split
    · exact ih
    · rw [joinG_snoc]
      refine top_or ih ?_
      have h1 := word_lt B j
      have h2 : wordAt B j * 2 ^ (64 * j) < 2 ^ 64 * 2 ^ (64 * j) := Nat.mul_lt_mul_of_pos_right h1 (Nat.pow_pos (by decide))
      rw [← Nat.pow_add] at h2
      exact Nat.lt_of_lt_of_le h2 (Nat.pow_le_pow_right (by decide) (show 64 + 64 * j ≤ bitsN by unfold bitsN; omega))
theorem joinG_all {A B : Nat} (hA : A < top) (hB : B < top) : joinG A (chunkL B) = A ||| B := by
  apply Nat.eq_of_testBit_eq
  intro m
  by_cases hm : m < 4160
  · rw [chunkL, joinG_bit A B 65 m hm, Nat.testBit_or]
  · show (joinG A (chunkTo B 65)).testBit m = _
    rw [bit_top (joinG_top B hA 65 (Nat.le_refl _)) hm, bit_top (top_or hA hB) hm]

end Ex
end Go.Proofs.YtfajoknacfjedaaGreatDoor
namespace Go.Proofs.YtfajoknacfjedaaGreatDoor
open Go.RowKit
attribute [local go_sem] Oper.semAt_some
namespace Ex

theorem chunk_info : (Tryz.prog.info? 129).map (fun i => (i.zero, i.size, i.bytes)) = some (some (.agg #[.int .i64 0, .int .u64 0]), 2, 16) := by kernel_rfl
theorem info_of {P : Program} {e : TypeId} {z : Value} {s b : Nat} (h : (P.info? e).map (fun i => (i.zero, i.size, i.bytes)) = some (some z, s, b)) : ∃ i, P.info? e = some i ∧ i.zero = some z ∧ i.size = s ∧ i.bytes = b := by
  obtain ⟨i, hi, h2⟩ := Option.map_eq_some_iff.1 h
  simp only [Prod.mk.injEq] at h2
  exact ⟨i, hi, h2.1, h2.2.1, h2.2.2⟩
/-- Chunks in a row of the call's own. -/
def ChunksOwn (w : World) (base : Nat) (v : Value) (l : List (Nat × Nat)) : Prop := w.ownsRow base 129 2 v l.length (chunkC l)
theorem ChunksOwn.nil (w : World) (base : Nat) : ChunksOwn w base (.slice none 0 0) [] := World.ownsRow_nil _ _ _ _
theorem owns_kept {w w' : World} {base size n : Nat} {e : TypeId} {v : Value} {xs : List Value} (h : w.ownsRow base e size v n xs) (hh : ∀ g, v.ownBlock = some g → w'.heap[g]? = w.heap[g]?) : w'.ownsRow base e size v n xs := by
  refine ⟨h.1, ?_⟩
  rcases h.2 with h0 | ⟨g, cap, cur, rfl, h1, h2, h3⟩
  · exact .inl h0
  · exact .inr ⟨g, cap, cur, rfl, h1, by rw [hh g rfl]; exact h2, h3⟩
theorem ChunksOwn.keep {w w' : World} {base : Nat} {v : Value} {l : List (Nat × Nat)} (h : ChunksOwn w base v l) (hk : Kept w w') : ChunksOwn w' base v l := owns_kept h (fun g hg => hk.2.2.2.2 g (World.ownsRow.lt h g hg).2)
theorem ChunksOwn.form {w : World} {base : Nat} {v : Value} {l : List (Nat × Nat)} (h : ChunksOwn w base v l) : ∃ a c, v = .slice a l.length c := by
  rcases h.2 with ⟨rfl, h0⟩ | ⟨g, cap, cur, rfl, _⟩
  · exact ⟨none, 0, by rw [h0]⟩
  · exact ⟨_, _, rfl⟩
/-- Chunks anywhere. -/
def ChunksAt (S : Nat → Prop) (w : World) (v : Value) (l : List (Nat × Nat)) : Prop :=
  ∃ a cap, v = .slice a l.length cap ∧ l.length ≤ cap ∧ l.length ≤ 65 ∧ (l = [] ∨ ∃ g, a = some ⟨g, 0, none⟩ ∧ S g ∧ ∀ (i : Nat) (c : Nat × Nat), l[i]? = some c → w.cell? ⟨g, i * 2, none⟩ = some (.int .i64 (c.1 : Int)) ∧ w.cell? ⟨g, i * 2 + 1, none⟩ = some (.int .u64 (c.2 : Int)))
theorem cells_row {w : World} {g n : Nat} {cur : Array Value} {xs : List Value} {t : TypeId} (h : w.heap[g]? = some (.cells cur t (0, 0))) (hx : cur.toList.take n = xs) {j : Nat} {u : Value} (hj : xs[j]? = some u) : w.cell? ⟨g, j, none⟩ = some u := by
  rw [← hx, List.getElem?_take] at hj
  split at hj
  · unfold World.cell?
    simp only [h]
    simpa using hj
  · cases hj
theorem ChunksOwn.at {w : World} {base : Nat} {v : Value} {l : List (Nat × Nat)} (h : ChunksOwn w base v l) (hl : l.length ≤ 65) : ChunksAt (fun d => base ≤ d ∧ d < w.heap.size) w v l := by
  have hlt := World.ownsRow.lt h
  rcases h.2 with ⟨rfl, h0⟩ | ⟨g, cap, cur, rfl, hb, hg, hc, _, _, hx⟩
  · exact ⟨none, 0, by rw [h0], by omega, hl, .inl (List.length_eq_zero_iff.1 h0)⟩
  · refine ⟨_, cap, rfl, hc, hl, .inr ⟨g, rfl, hlt g rfl, fun i c hi => ?_⟩⟩
    obtain ⟨h1, h2⟩ := chunkC_at l i c hi
    exact ⟨cells_row hg hx h1, cells_row hg hx h2⟩
theorem ChunksAt.mono {S S' : Nat → Prop} {w w' : World} {v : Value} {l : List (Nat × Nat)} (h : ChunksAt S w v l) (hs : Holds S w w') (hS : ∀ d, S d → S' d) : ChunksAt S' w' v l := by
  obtain ⟨a, cap, h1, h2, h3, h4⟩ := h
  refine ⟨a, cap, h1, h2, h3, ?_⟩
  rcases h4 with h4 | ⟨g, h5, h6, h7⟩
  · exact .inl h4
  · exact .inr ⟨g, h5, hS g h6, fun i c hi => ⟨hs _ _ _ h6 (h7 i c hi).1, hs _ _ _ h6 (h7 i c hi).2⟩⟩
theorem wpl_append_chunk {ops : Array Oper} {rest : List Oper} {o : Oper} {a : Act} {Q : Exit → Act → World → Prop} (hgd : o.guard = none) (s x : Operand)
    (ho : o.op = .call { callee := .builtin .append, args := #[s, x], argTypes := #[114, 114] }) (W : World) (base : Nat) (v : Value) (l : List (Nat × Nat)) (n : Nat) (hn : l.length = n) (hs : a.eval s = v) (hown : ChunksOwn W base v l)
    (lb : Nat) (c : Nat × Nat) (hx : a.eval x = .slice (some ⟨lb, 0, none⟩) 1 1) (hbx : W.heap[lb]? = some (.cells #[.int .i64 (c.1 : Int), .int .u64 (c.2 : Int)] 129 (0, 0))) (hl : l.length ≤ 100000) (hbase : base ≤ W.heap.size)
    (h : ∀ g cap w', ChunksOwn w' base (.slice (some ⟨g, 0, none⟩) (n + 1) cap) (l ++ [c]) → W.grownBy w' v.ownBlock → wpList Tryz.prog ops Q rest (a.put o.dst (.slice (some ⟨g, 0, none⟩) (n + 1) cap)) w') : wpList Tryz.prog ops Q (o :: rest) a W := by
  obtain ⟨i0, hi, hz0, hz1, hz2⟩ := info_of chunk_info
  subst hn
  refine wpList_append_lies W hgd s x 114 ho base 129 i0 _ 2 16 Tryz.underlying114 hi hz0 hz1 hz2 rfl (by decide) v l.length (chunkC l) hs hown ⟨lb, 0, none⟩ 1 1 [.int .i64 (c.1 : Int), .int .u64 (c.2 : Int)] hx rfl ?_ ?_ (by decide) (by unfold maxLen; omega) (by omega) hbase W.heap.size rfl ?_
  · intro j y hj
    have hj6 : j < 2 := (List.getElem?_eq_some_iff.1 hj).1
    match j, hj6 with
    | 0, _ => exact (show W.cell? ⟨lb, 0, none⟩ = _ by simp [World.cell?, hbx]).trans hj
    | 1, _ => exact (show W.cell? ⟨lb, 1, none⟩ = _ by simp [World.cell?, hbx]).trans hj
  · intro y hy
    simp only [List.mem_cons, List.not_mem_nil, or_false] at hy
    rcases hy with rfl | rfl <;> rfl
  · intro g cap w' h3 h4 h5 h6
    refine h g cap w' ?_ h4
    unfold ChunksOwn
    rw [List.length_append, List.length_singleton, chunkC_snoc]
    exact h3

theorem kept_grow {w W w' : World} {base size n : Nat} {e : TypeId} {v : Value} {xs : List Value} (h : Kept w W) (ho : W.ownsRow base e size v n xs) (hb : w.heap.size ≤ base) (hg : W.grownBy w' v.ownBlock) : Kept w w' :=
  ⟨hg.os.trans h.1, hg.tape.trans h.2.1, hg.output.trans h.2.2.1, Nat.le_trans h.size hg.size, fun k hk => (hg.block k (Nat.lt_of_lt_of_le hk h.size) (fun e => by have := (ho.lt k e.symm).1; omega)).trans (h.2.2.2.2 k hk)⟩
theorem word_size : (Tryz.prog.info? 83).map (·.size) = some 1 := by kernel_rfl
theorem set_size (A : Nat) : (Tryz.prog.info? 98).map (·.size) = some (setV A).size := by rw [setV_size]; kernel_rfl
theorem run_index_set (A i : Nat) (hi : i < 65) (w : World) : (Instr.index 98 (.agg (setV A)) (.int .i64 (i : Int))).run Tryz.prog w = .ok (.int .u64 (wordAt A i : Nat)) w := by
  obtain ⟨i0, h0, h1⟩ := Option.map_eq_some_iff.1 word_size
  have hg : (setV A)[i]? = some (.int .u64 (wordAt A i : Nat)) := setV_at A hi
  simp [Instr.index, run_underlying Tryz.underlying98, asIntOf, part, sizeOf, typeInfo, h0, h1, hg, go_sem]
  intro h
  omega
set_option linter.unusedSimpArgs false in
set_option maxRecDepth 100000 in
set_option maxHeartbeats 2000000 in
theorem chunks_is (A : Nat) (w : World) : Calls Tryz.prog 85 #[.agg (setV A)] w fun e w' => Hid (∃ v, e = .returned v ∧ ChunksOwn w' w.heap.size v (chunkL A)) ∧ Kept w w' := by
  go_enter Tryz.func85, Tryz.ntmps85
  go_wp2_with (refine wpList_load_row rfl 98 _ rfl w.heap.size rfl 98 (setV A) (0, 0) _ (SetAt.new w A) Tryz.underlying98 rfl (set_size A) ?_)
  go_loopw [3, 7] (fun vo vi wr => ∃ j : Nat, vi = .int .i64 (j : Int) ∧ j ≤ 65 ∧ Hid (ChunksOwn wr w.heap.size vo (chunkTo A j) ∧ Kept w wr)) (fun _ vi _ => 65 - (intOf vi).toNat)
  case atStart => exact ⟨0, rfl, by omega, ChunksOwn.nil _ _, (Kept.refl w).alloc _ _⟩
  case round =>
    obtain ⟨j, rfl, hj, hh⟩ := hrel
    obtain ⟨ho, hk⟩ := hh.out
    have hlen := chunkTo_len A j
    obtain ⟨l, hl⟩ : ∃ l, chunkTo A j = l := ⟨_, rfl⟩
    rw [hl] at ho hlen
    have HL := hide1 hl
    have HO := hide1 ho
    have HK := hide1 hk
    have hsz := hk.size
    obtain ⟨av, cv, rfl⟩ := ho.form
    clear hh ho hk hl
    by_cases hlt : (j : Int) < 65
    · have hx := run_index_set A j (by omega)
      by_cases h0 : wordAt A j = 0
      · have HE : Hid (chunkTo A (j + 1) = l) := by show _ = _; rw [chunkTo_succ, if_pos h0, HL.out]
        rw [h0] at hx
        clear h0
        go_wp2_with fail
        go_roundw
        case rel => exact ⟨j + 1, by go_num, by omega, by rw [HE.out]; exact HO.out, HK.out⟩
        case measure => simp [intOf]; omega
      · have HE : Hid (chunkTo A (j + 1) = l ++ [(j, wordAt A j)]) := by show _ = _; rw [chunkTo_succ, if_neg h0, HL.out]
        have h1 : ¬ (wordAt A j : Int) = 0 := by omega
        obtain ⟨x, hxx⟩ : ∃ x, wordAt A j = x := ⟨_, rfl⟩
        rw [hxx] at hx h1 HE
        clear h0 hxx
        go_wp2_with (at_builtin; go_must (refine wpl_append_chunk rfl _ _ rfl _ w.heap.size _ l l.length rfl (by rfl) (HO.out.keep ((Kept.refl _).alloc _ _)) wr.heap.size (j, x) (by rfl) (heap_alloc_new wr _) (by omega) (by simp; omega) ?_; intro g9 c9 w9 ho9 hg9; have HK9 := hide1 (kept_grow (HK.out.alloc _ _) (HO.out.keep ((Kept.refl _).alloc _ _)) (Nat.le_refl _) hg9); have HO9 := hide1 ho9; clear ho9 hg9))
        go_roundw
        case rel => exact ⟨j + 1, by go_num, by omega, by rw [HE.out]; exact HO9.out, HK9.out⟩
        case measure => simp [intOf]; omega
    · have hj65 : j = 65 := by omega
      subst hj65
      go_wp2_with fail
      go_ret
      exact ⟨⟨_, rfl, by unfold chunkL; rw [HL.out]; exact HO.out⟩, HK.out⟩

/-- Chunks as they are joined: their places and words are small. -/
def ChunkOk (l : List (Nat × Nat)) : Prop := ∀ c ∈ l, c.1 < 65 ∧ c.2 < 18446744073709551616
theorem chunkTo_ok (A : Nat) : ∀ j, j ≤ 65 → ChunkOk (chunkTo A j) := by
  intro j hj c hc
  unfold chunkTo at hc
  obtain ⟨i, hi, rfl⟩ := List.mem_map.1 hc
  have := List.mem_range.1 (List.mem_filter.1 hi).1
  exact ⟨by show i < 65; omega, word_lt A i⟩
set_option linter.unusedSimpArgs false in
set_option maxRecDepth 100000 in
set_option maxHeartbeats 2000000 in
theorem join_is (S : Nat → Prop) (A b : Nat) (v : Value) (l : List (Nat × Nat)) (w : World) (h : SetAt w b A) (hv : ChunksAt S w v l) (hS : ¬ S b) (hok : ChunkOk l) :
    Calls Tryz.prog 87 #[.pointer (some ⟨b, 0, none⟩), v] w fun e w' => e = .returned (.tuple #[]) ∧ KeptBut b w w' ∧ SetAt w' b (joinG A l) := by
  have HA := hide1 h
  have HV := hide1 hv
  have HS := hide1 hS
  have HOK := hide1 hok
  obtain ⟨a, cap, rfl, hc, hl65, _⟩ := hv
  have gc : (l.length : Int) ≤ (cap : Int) := by omega
  clear h hS hok
  go_enter Tryz.func87, Tryz.ntmps87
  go_wp2_with fail
  go_loopw [8] (fun vi wr => ∃ j : Nat, vi = .int .i64 (j : Int) ∧ j ≤ l.length ∧ Hid (SetAt wr b (joinG A (l.take j)) ∧ KeptBut b w wr)) (fun vi _ => l.length - (intOf vi).toNat)
  case atStart => exact ⟨0, rfl, Nat.zero_le _, by simpa [joinG] using HA.out, (Kept.refl w).but b⟩
  case round =>
    obtain ⟨j, rfl, hj, hh⟩ := hrel
    obtain ⟨hA, hk⟩ := hh.out
    have HA1 := hide1 hA
    have HK := hide1 hk
    clear hh
    by_cases hlt : (j : Int) < (l.length : Int)
    · obtain ⟨⟨k, x⟩, hq⟩ : ∃ c, l[j]? = some c := ⟨_, List.getElem?_eq_getElem (by omega)⟩
      obtain ⟨a2, cap2, e2, _, _, h4⟩ := HV.out.mono (hk.holds HS.out) (fun _ h => h)
      simp only [Value.slice.injEq] at e2
      obtain ⟨rfl, _, rfl⟩ := e2
      rcases h4 with h4 | ⟨g, rfl, hSg, h7⟩
      · rw [h4] at hq; simp at hq
      · obtain ⟨g0, g1⟩ := h7 j _ hq
        obtain ⟨hk65, hx⟩ := HOK.out (k, x) (List.mem_of_getElem? hq)
        have hw0 := (hA.cell (i := k) hk65)
        have hf0 := hA.free k
        have hb := hA.lt
        have gk : (k : Int) < 65 := by have := hk65; omega
        have HE : Hid (joinG A (l.take (j + 1)) = joinG A (l.take j) ||| x * 2 ^ (64 * k)) := by
          show _ = _
          rw [List.take_add_one, hq]
          exact joinG_snoc _ _ _
        have HX := hide1 (show k < 65 ∧ x < 18446744073709551616 from ⟨hk65, hx⟩)
        obtain ⟨B, hB⟩ : ∃ B, joinG A (l.take j) = B := ⟨_, rfl⟩
        rw [hB] at hw0 HA1 HE
        clear h7 hq hA hk hB hk65 hx
        dsimp only at g0 g1
        go_wp2_with (go_region)
        go_roundw
        case rel =>
          refine ⟨j + 1, by go_num, by omega, ?_, ?_⟩
          · rw [HE.out]
            exact (HA1.out.or HX.out.1 HX.out.2 (congrArg (Value.int .u64) (or_word _ _ (word_lt _ _) HX.out.2))).keep (gtrans ((Kept.refl _).alloc _ _) (drew_kept _))
          · exact (HK.out.trans (setCell_but _ _ _ _)).trans ((gtrans ((Kept.refl _).alloc _ _) (drew_kept _)).but b)
        case measure => simp [intOf]; omega
    · have HE : Hid (l.take j = l) := List.take_of_length_le (by omega)
      go_wp2_with fail
      go_end0
      rw [HE.out] at HA1
      exact ⟨rfl, HK.out, HA1.out⟩

end Ex
end Go.Proofs.YtfajoknacfjedaaGreatDoor
namespace Go.Proofs.YtfajoknacfjedaaGreatDoor
open Go.RowKit
attribute [local go_sem] Oper.semAt_some
namespace Ex

/-- The table of math/bits lies in its variable. -/
def TabAt (w : World) : Prop := ∀ j, j < 64 → w.cell? ⟨1, j, none⟩ = some (.int .u8 (Lib.deBruijn64tab.getD j 0 : Nat))
theorem TabAt.keep {w w' : World} (h : TabAt w) (hk : Kept w w') : TabAt w' := fun j hj => grown_cell hk (h j hj)
theorem TabAt.lt {w : World} (h : TabAt w) : 1 < w.heap.size := World.block_lt_of_cell? w _ (h 0 (by decide))
theorem TabAt.but {w w' : World} {b : Nat} (h : TabAt w) (hk : KeptBut b w w') (hb : b ≠ 1) : TabAt w' := fun j hj =>
  (World.cell?_of_block (w := w) (a := ⟨1, j, none⟩) (hk.2.2.2.2 _ h.lt (Ne.symm hb))).trans (h j hj)

theorem tz_key (x a : Nat) (hx : x < 18446744073709551616) (hx0 : x ≠ 0) (hlow : x &&& (18446744073709551616 - x) = a) :
    IntKind.u64.wrap (bits BinOp.and IntKind.u64 (x : Int) (IntKind.u64.wrap (-(x : Int))) * 285870213051353865) / 288230376151711744 = ((a * 285870213051353865 % 18446744073709551616 / 288230376151711744 : Nat) : Int) := by
  have e1 : IntKind.u64.wrap (-(x : Int)) = ((18446744073709551616 - x : Nat) : Int) := by rw [IntKind.wrap_u64]; omega
  rw [e1, bits_and_u64_nat x _ hx (by omega), hlow, IntKind.wrap_u64]
  omega
set_option linter.unusedSimpArgs false in
set_option maxRecDepth 100000 in
set_option maxHeartbeats 2000000 in
theorem tz_core (x k idx : Nat) (w : World) (hx0 : ((x : Int) == 0) = false)
    (key : IntKind.u64.wrap (bits BinOp.and IntKind.u64 (x : Int) (IntKind.u64.wrap (-(x : Int))) * 285870213051353865) / 288230376151711744 = (idx : Int))
    (hi : idx < 64) (hk : k < 64) (hcell : w.cell? ⟨1, idx, none⟩ = some (.int .u8 k)) :
    Calls Tryz.prog 86 #[.int .u64 x] w fun e w' => e = .returned (.int .i64 k) ∧ ∃ m, w' = w.drewN m := by
  go_enter Tryz.func86, Tryz.ntmps86
  go_wp2_with (simp only [key])
  go_ret
  exact ⟨rfl, 0, rfl⟩
/-- How many zero bits a word ends in. -/
theorem tz_is (x : Nat) (hx : x < 18446744073709551616) (hx0 : x ≠ 0) (w : World) (hT : TabAt w) :
    Calls Tryz.prog 86 #[.int .u64 x] w fun e w' => e = .returned (.int .i64 (Lib.ctz 64 x : Nat)) ∧ ∃ m, w' = w.drewN m := by
  obtain ⟨hlow, hk⟩ := Lib.lowest_bit 64 x hx0 hx
  obtain ⟨hi, htab⟩ := Lib.deBruijn64_at _ hk
  have hcell := hT _ hi
  rw [htab] at hcell
  exact tz_core x _ _ w (by simp; omega) (tz_key x _ hx hx0 hlow) hi hk hcell

/-- The lowest bit, and the word without it. -/
theorem ctz_bit {x : Nat} (hx : x < 18446744073709551616) (hx0 : x ≠ 0) : Lib.ctz 64 x < 64 ∧ x.testBit (Lib.ctz 64 x) = true ∧ (∀ j, j < Lib.ctz 64 x → x.testBit j = false) ∧ x &&& (x - 1) = x - 2 ^ Lib.ctz 64 x ∧ ∀ j, (x &&& (x - 1)).testBit j = (x.testBit j && decide (j ≠ Lib.ctz 64 x)) := by
  obtain ⟨m, hm, hk⟩ := Lib.ctzFrom_spec 64 x (by omega) hx
  have e : Lib.ctz 64 x = Lib.ctzFrom 64 x := by simp [Lib.ctz, hx0]
  rw [e]
  obtain ⟨k, hkk⟩ : ∃ k, Lib.ctzFrom 64 x = k := ⟨_, rfl⟩
  rw [hkk] at hm hk ⊢
  clear e hkk
  have hbit : ∀ j, x.testBit j = (decide (k ≤ j) && (2 * m + 1).testBit (j - k)) := fun j => by rw [hm, Nat.mul_comm, Nat.testBit_mul_two_pow]
  have hp : 0 < 2 ^ k := Nat.pow_pos (by decide)
  have hsub : x - 1 = 2 ^ k * (2 * m) + (2 ^ k - 1) := by
    rw [hm, Nat.mul_add, Nat.mul_one]
    omega
  have hbit1 : ∀ j, (x - 1).testBit j = if j < k then true else (2 * m).testBit (j - k) := fun j => by
    rw [hsub, Nat.testBit_two_pow_mul_add _ (by omega)]
    by_cases hj : j < k
    · simp [hj]
    · simp [hj]
  have hand : ∀ j, (x &&& (x - 1)).testBit j = (x.testBit j && decide (j ≠ k)) := fun j => by
    rw [Nat.testBit_and, hbit, hbit1]
    by_cases hj : j < k
    · simp [hj, show ¬ k ≤ j by omega]
    · by_cases hjk : j = k
      · subst hjk; simp
      · obtain ⟨i, hi⟩ : ∃ i, j - k = i + 1 := ⟨j - k - 1, by omega⟩
        simp only [hj, if_false, hi, hjk, ne_eq, not_false_eq_true, decide_true, Bool.and_true, Nat.testBit_succ, show (2 * m + 1) / 2 = m by omega, show 2 * m / 2 = m by omega, show k ≤ j by omega, Bool.true_and, Bool.and_self]
  refine ⟨hk, by rw [hbit]; simp [Nat.testBit_zero], fun j hj => by rw [hbit]; simp [show ¬ k ≤ j by omega], ?_, hand⟩
  have h2 : x - 2 ^ k = 2 ^ k * (2 * m) := by rw [hm, Nat.mul_add, Nat.mul_one]; omega
  rw [h2]
  apply Nat.eq_of_testBit_eq
  intro j
  rw [hand, hbit, Nat.mul_comm (2 ^ k), Nat.testBit_mul_two_pow]
  by_cases hj : k ≤ j
  · by_cases hjk : j = k
    · subst hjk; simp [Nat.testBit_zero]
    · obtain ⟨i, hi⟩ : ∃ i, j - k = i + 1 := ⟨j - k - 1, by omega⟩
      simp [hi, hjk, Nat.testBit_succ, show (2 * m + 1) / 2 = m by omega]
  · simp [hj]

end Ex
end Go.Proofs.YtfajoknacfjedaaGreatDoor
