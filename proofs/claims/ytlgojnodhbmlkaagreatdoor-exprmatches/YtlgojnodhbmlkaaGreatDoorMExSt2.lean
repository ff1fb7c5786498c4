import Derived.Test.YtlgojnodhbmlkaaGreatDoorMExSt1
import Derived.Deep.AppendLies
import Derived.Deep.DeepMust
import Derived.OwnWalk
namespace Go.Proofs.YtlgojnodhbmlkaaGreatDoor
open Go.RowKit
attribute [local go_sem] Oper.semAt_some
namespace Ex

theorem chunk_info : (Tryz.prog.info? 114).map (fun i => (i.zero, i.size, i.bytes)) = some (some (.agg #[.int .i64 0, .int .u64 0]), 2, 16) := by kernel_rfl
theorem info_of {P : Program} {e : TypeId} {z : Value} {s b : Nat} (h : (P.info? e).map (fun i => (i.zero, i.size, i.bytes)) = some (some z, s, b)) : ∃ i, P.info? e = some i ∧ i.zero = some z ∧ i.size = s ∧ i.bytes = b := by
  obtain ⟨i, hi, h2⟩ := Option.map_eq_some_iff.1 h
  simp only [Prod.mk.injEq] at h2
  exact ⟨i, hi, h2.1, h2.2.1, h2.2.2⟩
/-- Chunks in a row of the call's own. -/
def ChunksOwn (w : World) (base : Nat) (v : Value) (l : List (Nat × Nat)) : Prop := w.ownsRow base 114 2 v l.length (chunkC l)
theorem ChunksOwn.nil (w : World) (base : Nat) : ChunksOwn w base (.slice none 0 0) [] := World.ownsRow_nil _ _ _ _
theorem owns_kept {w w' : World} {base size n : Nat} {e : TypeId} {v : Value} {xs : List Value} (h : w.ownsRow base e size v n xs) (hh : ∀ g, v.ownBlock = some g → w'.heap[g]? = w.heap[g]?) : w'.ownsRow base e size v n xs := by
  refine ⟨h.1, ?_⟩
  rcases h.2 with h0 | ⟨g, cap, cur, rfl, h1, h2, h3⟩
  · exact .inl h0
  · exact .inr ⟨g, cap, cur, rfl, h1, by rw [hh g rfl]; exact h2, h3⟩
theorem ChunksOwn.keep {w w' : World} {base : Nat} {v : Value} {l : List (Nat × Nat)} (h : ChunksOwn w base v l) (hk : Kept w w') : ChunksOwn w' base v l := owns_kept h (fun g hg => hk.2.2.2.2 g (World.ownsRow.lt h g hg).2)
theorem ChunksOwn.form {w : World} {base : Nat} {v : Value} {l : List (Nat × Nat)} (h : ChunksOwn w base v l) : ∃ a c, v = .slice a l.length c := by
  rcases h.2 with ⟨rfl, h0⟩ | ⟨g, cap, cur, rfl, _⟩
  · exact ⟨none, 0, by rw [h0]⟩
  · exact ⟨_, _, rfl⟩
/-- Chunks anywhere. -/
def ChunksAt (S : Nat → Prop) (w : World) (v : Value) (l : List (Nat × Nat)) : Prop :=
  ∃ a cap, v = .slice a l.length cap ∧ l.length ≤ cap ∧ l.length ≤ 65 ∧ (l = [] ∨ ∃ g, a = some ⟨g, 0, none⟩ ∧ S g ∧ ∀ (i : Nat) (c : Nat × Nat), l[i]? = some c → w.cell? ⟨g, i * 2, none⟩ = some (.int .i64 (c.1 : Int)) ∧ w.cell? ⟨g, i * 2 + 1, none⟩ = some (.int .u64 (c.2 : Int)))
theorem cells_row {w : World} {g n : Nat} {cur : Array Value} {xs : List Value} {t : TypeId} (h : w.heap[g]? = some (.cells cur t (0, 0))) (hx : cur.toList.take n = xs) {j : Nat} {u : Value} (hj : xs[j]? = some u) : w.cell? ⟨g, j, none⟩ = some u := by
  rw [← hx, List.getElem?_take] at hj
  split at hj
  · unfold World.cell?
    simp only [h]
    simpa using hj
  · cases hj
theorem ChunksOwn.at {w : World} {base : Nat} {v : Value} {l : List (Nat × Nat)} (h : ChunksOwn w base v l) (hl : l.length ≤ 65) : ChunksAt (fun d => base ≤ d ∧ d < w.heap.size) w v l := by
  have hlt := World.ownsRow.lt h
  rcases h.2 with ⟨rfl, h0⟩ | ⟨g, cap, cur, rfl, hb, hg, hc, _, _, hx⟩
  · exact ⟨none, 0, by rw [h0], by omega, hl, .inl (List.length_eq_zero_iff.1 h0)⟩
  · refine ⟨_, cap, rfl, hc, hl, .inr ⟨g, rfl, hlt g rfl, fun i c hi => ?_⟩⟩
    obtain ⟨h1, h2⟩ := chunkC_at l i c hi
    exact ⟨cells_row hg hx h1, cells_row hg hx h2⟩
theorem ChunksAt.mono {S S' : Nat → Prop} {w w' : World} {v : Value} {l : List (Nat × Nat)} (h : ChunksAt S w v l) (hs : Holds S w w') (hS : ∀ d, S d → S' d) : ChunksAt S' w' v l := by
  obtain ⟨a, cap, h1, h2, h3, h4⟩ := h
  refine ⟨a, cap, h1, h2, h3, ?_⟩
  rcases h4 with h4 | ⟨g, h5, h6, h7⟩
  · exact .inl h4
  · exact .inr ⟨g, h5, hS g h6, fun i c hi => ⟨hs _ _ _ h6 (h7 i c hi).1, hs _ _ _ h6 (h7 i c hi).2⟩⟩
theorem wpl_append_chunk {ops : Array Oper} {rest : List Oper} {o : Oper} {a : Act} {Q : Exit → Act → World → Prop} (hgd : o.guard = none) (s x : Operand)
    (ho : o.op = .call { callee := .builtin .append, args := #[s, x], argTypes := #[100, 100] }) (W : World) (base : Nat) (v : Value) (l : List (Nat × Nat)) (n : Nat) (hn : l.length = n) (hs : a.eval s = v) (hown : ChunksOwn W base v l)
    (lb : Nat) (c : Nat × Nat) (hx : a.eval x = .slice (some ⟨lb, 0, none⟩) 1 1) (hbx : W.heap[lb]? = some (.cells #[.int .i64 (c.1 : Int), .int .u64 (c.2 : Int)] 114 (0, 0))) (hl : l.length ≤ 100000) (hbase : base ≤ W.heap.size)
    (h : ∀ g cap w', ChunksOwn w' base (.slice (some ⟨g, 0, none⟩) (n + 1) cap) (l ++ [c]) → W.grownBy w' v.ownBlock → wpList Tryz.prog ops Q rest (a.put o.dst (.slice (some ⟨g, 0, none⟩) (n + 1) cap)) w') : wpList Tryz.prog ops Q (o :: rest) a W := by
  obtain ⟨i0, hi, hz0, hz1, hz2⟩ := info_of chunk_info
  subst hn
  refine wpList_append_lies W hgd s x 100 ho base 114 i0 _ 2 16 Tryz.underlying100 hi hz0 hz1 hz2 rfl (by decide) v l.length (chunkC l) hs hown ⟨lb, 0, none⟩ 1 1 [.int .i64 (c.1 : Int), .int .u64 (c.2 : Int)] hx rfl ?_ ?_ (by decide) (by unfold maxLen; omega) (by omega) hbase W.heap.size rfl ?_
  · intro j y hj
    have hj6 : j < 2 := (List.getElem?_eq_some_iff.1 hj).1
    match j, hj6 with
    | 0, _ => exact (show W.cell? ⟨lb, 0, none⟩ = _ by simp [World.cell?, hbx]).trans hj
    | 1, _ => exact (show W.cell? ⟨lb, 1, none⟩ = _ by simp [World.cell?, hbx]).trans hj
  · intro y hy
    simp only [List.mem_cons, List.not_mem_nil, or_false] at hy
    rcases hy with rfl | rfl <;> rfl
  · intro g cap w' h3 h4 h5 h6
    refine h g cap w' ?_ h4
    unfold ChunksOwn
    rw [List.length_append, List.length_singleton, chunkC_snoc]
    exact h3

theorem kept_grow {w W w' : World} {base size n : Nat} {e : TypeId} {v : Value} {xs : List Value} (h : Kept w W) (ho : W.ownsRow base e size v n xs) (hb : w.heap.size ≤ base) (hg : W.grownBy w' v.ownBlock) : Kept w w' :=
  ⟨hg.os.trans h.1, hg.tape.trans h.2.1, hg.output.trans h.2.2.1, Nat.le_trans h.size hg.size, fun k hk => (hg.block k (Nat.lt_of_lt_of_le hk h.size) (fun e => by have := (ho.lt k e.symm).1; omega)).trans (h.2.2.2.2 k hk)⟩
theorem word_size : (Tryz.prog.info? 83).map (·.size) = some 1 := by kernel_rfl
theorem set_size (A : Nat) : (Tryz.prog.info? 85).map (·.size) = some (setV A).size := by rw [setV_size]; kernel_rfl
theorem run_index_set (A i : Nat) (hi : i < 65) (w : World) : (Instr.index 85 (.agg (setV A)) (.int .i64 (i : Int))).run Tryz.prog w = .ok (.int .u64 (wordAt A i : Nat)) w := by
  obtain ⟨i0, h0, h1⟩ := Option.map_eq_some_iff.1 word_size
  have hg : (setV A)[i]? = some (.int .u64 (wordAt A i : Nat)) := setV_at A hi
  simp [Instr.index, run_underlying Tryz.underlying85, asIntOf, part, sizeOf, typeInfo, h0, h1, hg, go_sem]
  intro h
  omega
set_option linter.unusedSimpArgs false in
set_option maxRecDepth 100000 in
set_option maxHeartbeats 2000000 in
theorem chunks_is (A : Nat) (w : World) : Calls Tryz.prog 65 #[.agg (setV A)] w fun e w' => Hid (∃ v, e = .returned v ∧ ChunksOwn w' w.heap.size v (chunkL A)) ∧ Kept w w' := by
  go_enter Tryz.func65, Tryz.ntmps65
  go_wp2_with (refine wpList_load_row rfl 85 _ rfl w.heap.size rfl 85 (setV A) (0, 0) _ (SetAt.new w A) Tryz.underlying85 rfl (set_size A) ?_)
  go_loopw [3, 7] (fun vo vi wr => ∃ j : Nat, vi = .int .i64 (j : Int) ∧ j ≤ 65 ∧ Hid (ChunksOwn wr w.heap.size vo (chunkTo A j) ∧ Kept w wr)) (fun _ vi _ => 65 - (intOf vi).toNat)
  case atStart => exact ⟨0, rfl, by omega, ChunksOwn.nil _ _, (Kept.refl w).alloc _ _⟩
  case round =>
    obtain ⟨j, rfl, hj, hh⟩ := hrel
    obtain ⟨ho, hk⟩ := hh.out
    have hlen := chunkTo_len A j
    obtain ⟨l, hl⟩ : ∃ l, chunkTo A j = l := ⟨_, rfl⟩
    rw [hl] at ho hlen
    have HL := hide1 hl
    have HO := hide1 ho
    have HK := hide1 hk
    have hsz := hk.size
    obtain ⟨av, cv, rfl⟩ := ho.form
    clear hh ho hk hl
    by_cases hlt : (j : Int) < 65
    · have hx := run_index_set A j (by omega)
      by_cases h0 : wordAt A j = 0
      · have HE : Hid (chunkTo A (j + 1) = l) := by show _ = _; rw [chunkTo_succ, if_pos h0, HL.out]
        rw [h0] at hx
        clear h0
        go_wp2_with fail
        go_roundw
        case rel => exact ⟨j + 1, by go_num, by omega, by rw [HE.out]; exact HO.out, HK.out⟩
        case measure => simp [intOf]; omega
      · have HE : Hid (chunkTo A (j + 1) = l ++ [(j, wordAt A j)]) := by show _ = _; rw [chunkTo_succ, if_neg h0, HL.out]
        have h1 : ¬ (wordAt A j : Int) = 0 := by omega
        obtain ⟨x, hxx⟩ : ∃ x, wordAt A j = x := ⟨_, rfl⟩
        rw [hxx] at hx h1 HE
        clear h0 hxx
        go_wp2_with (at_builtin; go_must (refine wpl_append_chunk rfl _ _ rfl _ w.heap.size _ l l.length rfl (by rfl) (HO.out.keep ((Kept.refl _).alloc _ _)) wr.heap.size (j, x) (by rfl) (heap_alloc_new wr _) (by omega) (by simp; omega) ?_; intro g9 c9 w9 ho9 hg9; have HK9 := hide1 (kept_grow (HK.out.alloc _ _) (HO.out.keep ((Kept.refl _).alloc _ _)) (Nat.le_refl _) hg9); have HO9 := hide1 ho9; clear ho9 hg9))
        go_roundw
        case rel => exact ⟨j + 1, by go_num, by omega, by rw [HE.out]; exact HO9.out, HK9.out⟩
        case measure => simp [intOf]; omega
    · have hj65 : j = 65 := by omega
      subst hj65
      go_wp2_with fail
      go_ret
      exact ⟨⟨_, rfl, by unfold chunkL; rw [HL.out]; exact HO.out⟩, HK.out⟩

/-- Chunks as they are joined: their places and words are small. -/
def ChunkOk (l : List (Nat × Nat)) : Prop := ∀ c ∈ l, c.1 < 65 ∧ c.2 < 18446744073709551616
theorem chunkTo_ok (A : Nat) : ∀ j, j ≤ 65 → ChunkOk (chunkTo A j) := by
  intro j hj c hc
  unfold chunkTo at hc
  obtain ⟨i, hi, rfl⟩ := List.mem_map.1 hc
  have := List.mem_range.1 (List.mem_filter.1 hi).1
  exact ⟨by show i < 65; omega, word_lt A i⟩
set_option linter.unusedSimpArgs false in
set_option maxRecDepth 100000 in
set_option maxHeartbeats 2000000 in
theorem join_is (S : Nat → Prop) (A b : Nat) (v : Value) (l : List (Nat × Nat)) (w : World) (h : SetAt w b A) (hv : ChunksAt S w v l) (hS : ¬ S b) (hok : ChunkOk l) :
    Calls Tryz.prog 67 #[.pointer (some ⟨b, 0, none⟩), v] w fun e w' => e = .returned (.tuple #[]) ∧ KeptBut b w w' ∧ SetAt w' b (joinG A l) := by
  have HA := hide1 h
  have HV := hide1 hv
  have HS := hide1 hS
  have HOK := hide1 hok
  obtain ⟨a, cap, rfl, hc, hl65, _⟩ := hv
  have gc : (l.length : Int) ≤ (cap : Int) := by omega
  clear h hS hok
  go_enter Tryz.func67, Tryz.ntmps67
  go_wp2_with fail
  go_loopw [8] (fun vi wr => ∃ j : Nat, vi = .int .i64 (j : Int) ∧ j ≤ l.length ∧ Hid (SetAt wr b (joinG A (l.take j)) ∧ KeptBut b w wr)) (fun vi _ => l.length - (intOf vi).toNat)
  case atStart => exact ⟨0, rfl, Nat.zero_le _, by simpa [joinG] using HA.out, (Kept.refl w).but b⟩
  case round =>
    obtain ⟨j, rfl, hj, hh⟩ := hrel
    obtain ⟨hA, hk⟩ := hh.out
    have HA1 := hide1 hA
    have HK := hide1 hk
    clear hh
    by_cases hlt : (j : Int) < (l.length : Int)
    · obtain ⟨⟨k, x⟩, hq⟩ : ∃ c, l[j]? = some c := ⟨_, List.getElem?_eq_getElem (by omega)⟩
      obtain ⟨a2, cap2, e2, _, _, h4⟩ := HV.out.mono (hk.holds HS.out) (fun _ h => h)
      simp only [Value.slice.injEq] at e2
      obtain ⟨rfl, _, rfl⟩ := e2
      rcases h4 with h4 | ⟨g, rfl, hSg, h7⟩
      · rw [h4] at hq; simp at hq
      · obtain ⟨g0, g1⟩ := h7 j _ hq
        obtain ⟨hk65, hx⟩ := HOK.out (k, x) (List.mem_of_getElem? hq)
        have hw0 := (hA.cell (i := k) hk65)
        have hf0 := hA.free k
        have hb := hA.lt
        have gk : (k : Int) < 65 := by have := hk65; omega
        have HE : Hid (joinG A (l.take (j + 1)) = joinG A (l.take j) ||| x * 2 ^ (64 * k)) := by
          show _ = _
          rw [List.take_add_one, hq]
          exact joinG_snoc _ _ _
        have HX := hide1 (show k < 65 ∧ x < 18446744073709551616 from ⟨hk65, hx⟩)
        obtain ⟨B, hB⟩ : ∃ B, joinG A (l.take j) = B := ⟨_, rfl⟩
        rw [hB] at hw0 HA1 HE
        clear h7 hq hA hk hB hk65 hx
        dsimp only at g0 g1
        go_wp2_with (go_region)
        go_roundw
        case rel =>
          refine ⟨j + 1, by go_num, by omega, ?_, ?_⟩
          · rw [HE.out]
            exact (HA1.out.or HX.out.1 HX.out.2 (congrArg (Value.int .u64) (or_word _ _ (word_lt _ _) HX.out.2))).keep (gtrans ((Kept.refl _).alloc _ _) (drew_kept _))
          · exact (HK.out.trans (setCell_but _ _ _ _)).trans ((gtrans ((Kept.refl _).alloc _ _) (drew_kept _)).but b)
        case measure => simp [intOf]; omega
    · have HE : Hid (l.take j = l) := List.take_of_length_le (by omega)
      go_wp2_with fail
      go_end0
      rw [HE.out] at HA1
      exact ⟨rfl, HK.out, HA1.out⟩

end Ex
end Go.Proofs.YtlgojnodhbmlkaaGreatDoor
namespace Go.Proofs.YtlgojnodhbmlkaaGreatDoor
open Go.RowKit
attribute [local go_sem] Oper.semAt_some
namespace Ex

/-- The table of math/bits lies in its variable. -/
def TabAt (w : World) : Prop := ∀ j, j < 64 → w.cell? ⟨0, j, none⟩ = some (.int .u8 (Lib.deBruijn64tab.getD j 0 : Nat))
theorem TabAt.keep {w w' : World} (h : TabAt w) (hk : Kept w w') : TabAt w' := fun j hj => grown_cell hk (h j hj)
theorem TabAt.lt {w : World} (h : TabAt w) : 0 < w.heap.size := World.block_lt_of_cell? w _ (h 0 (by decide))
theorem TabAt.but {w w' : World} {b : Nat} (h : TabAt w) (hk : KeptBut b w w') (hb : b ≠ 0) : TabAt w' := fun j hj =>
  (World.cell?_of_block (w := w) (a := ⟨0, j, none⟩) (hk.2.2.2.2 _ h.lt (Ne.symm hb))).trans (h j hj)

theorem tz_key (x a : Nat) (hx : x < 18446744073709551616) (hx0 : x ≠ 0) (hlow : x &&& (18446744073709551616 - x) = a) :
    IntKind.u64.wrap (bits BinOp.and IntKind.u64 (x : Int) (IntKind.u64.wrap (-(x : Int))) * 285870213051353865) / 288230376151711744 = ((a * 285870213051353865 % 18446744073709551616 / 288230376151711744 : Nat) : Int) := by
  have e1 : IntKind.u64.wrap (-(x : Int)) = ((18446744073709551616 - x : Nat) : Int) := by rw [IntKind.wrap_u64]; omega
  rw [e1, bits_and_u64_nat x _ hx (by omega), hlow, IntKind.wrap_u64]
  omega
set_option linter.unusedSimpArgs false in
set_option maxRecDepth 100000 in
set_option maxHeartbeats 2000000 in
theorem tz_core (x k idx : Nat) (w : World) (hx0 : ((x : Int) == 0) = false)
    (key : IntKind.u64.wrap (bits BinOp.and IntKind.u64 (x : Int) (IntKind.u64.wrap (-(x : Int))) * 285870213051353865) / 288230376151711744 = (idx : Int))
    (hi : idx < 64) (hk : k < 64) (hcell : w.cell? ⟨0, idx, none⟩ = some (.int .u8 k)) :
    Calls Tryz.prog 66 #[.int .u64 x] w fun e w' => e = .returned (.int .i64 k) ∧ ∃ m, w' = w.drewN m := by
  go_enter Tryz.func66, Tryz.ntmps66
  go_wp2_with (simp only [key])
  go_ret
  exact ⟨rfl, 0, rfl⟩
/-- How many zero bits a word ends in. -/
theorem tz_is (x : Nat) (hx : x < 18446744073709551616) (hx0 : x ≠ 0) (w : World) (hT : TabAt w) :
    Calls Tryz.prog 66 #[.int .u64 x] w fun e w' => e = .returned (.int .i64 (Lib.ctz 64 x : Nat)) ∧ ∃ m, w' = w.drewN m := by
  obtain ⟨hlow, hk⟩ := Lib.lowest_bit 64 x hx0 hx
  obtain ⟨hi, htab⟩ := Lib.deBruijn64_at _ hk
  have hcell := hT _ hi
  rw [htab] at hcell
  exact tz_core x _ _ w (by simp; omega) (tz_key x _ hx hx0 hlow) hi hk hcell

/-- The lowest bit, and the word without it. -/
theorem ctz_bit {x : Nat} (hx : x < 18446744073709551616) (hx0 : x ≠ 0) : Lib.ctz 64 x < 64 ∧ x.testBit (Lib.ctz 64 x) = true ∧ (∀ j, j < Lib.ctz 64 x → x.testBit j = false) ∧ x &&& (x - 1) = x - 2 ^ Lib.ctz 64 x ∧ ∀ j, (x &&& (x - 1)).testBit j = (x.testBit j && decide (j ≠ Lib.ctz 64 x)) := by
  obtain ⟨m, hm, hk⟩ := Lib.ctzFrom_spec 64 x (by omega) hx
  have e : Lib.ctz 64 x = Lib.ctzFrom 64 x := by simp [Lib.ctz, hx0]
  rw [e]
  obtain ⟨k, hkk⟩ : ∃ k, Lib.ctzFrom 64 x = k := ⟨_, rfl⟩
  rw [hkk] at hm hk ⊢
  clear e hkk
  have hbit : ∀ j, x.testBit j = (decide (k ≤ j) && (2 * m + 1).testBit (j - k)) := fun j => by rw [hm, Nat.mul_comm, Nat.testBit_mul_two_pow]
  have hp : 0 < 2 ^ k := Nat.pow_pos (by decide)
  have hsub : x - 1 = 2 ^ k * (2 * m) + (2 ^ k - 1) := by
    rw [hm, Nat.mul_add, Nat.mul_one]
    omega
  have hbit1 : ∀ j, (x - 1).testBit j = if j < k then true else (2 * m).testBit (j - k) := fun j => by
    rw [hsub, Nat.testBit_two_pow_mul_add _ (by omega)]
    by_cases hj : j < k
    · simp [hj]
    · simp [hj]
  have hand : ∀ j, (x &&& (x - 1)).testBit j = (x.testBit j && decide (j ≠ k)) := fun j => by
    rw [Nat.testBit_and, hbit, hbit1]
    by_cases hj : j < k
    · simp [hj, show ¬ k ≤ j by omega]
    · by_cases hjk : j = k
      · subst hjk; simp
      · obtain ⟨i, hi⟩ : ∃ i, j - k = i + 1 := ⟨j - k - 1, by omega⟩
        simp only [hj, if_false, hi, hjk, ne_eq, not_false_eq_true, decide_true, Bool.and_true, Nat.testBit_succ, show (2 * m + 1) / 2 = m by omega, show 2 * m / 2 = m by omega, show k ≤ j by omega, Bool.true_and, Bool.and_self]
  refine ⟨hk, by rw [hbit]; simp [Nat.testBit_zero], fun j hj => by rw [hbit]; simp [show ¬ k ≤ j by omega], ?_, hand⟩
  have h2 : x - 2 ^ k = 2 ^ k * (2 * m) := by rw [hm, Nat.mul_add, Nat.mul_one]; omega
  rw [h2]
  apply Nat.eq_of_testBit_eq
  intro j
  rw [hand, hbit, Nat.mul_comm (2 ^ k), Nat.testBit_mul_two_pow]
  by_cases hj : k ≤ j
  · by_cases hjk : j = k
    · subst hjk; simp [Nat.testBit_zero]
    · obtain ⟨i, hi⟩ : ∃ i, j - k = i + 1 := ⟨j - k - 1, by omega⟩
      simp [hi, hjk, Nat.testBit_succ, show (2 * m + 1) / 2 = m by omega]
  · simp [hj]

end Ex
end Go.Proofs.YtlgojnodhbmlkaaGreatDoor
