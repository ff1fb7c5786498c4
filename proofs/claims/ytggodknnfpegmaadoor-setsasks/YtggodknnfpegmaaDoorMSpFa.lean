import Derived.Test.YtggodknnfpegmaaDoorMSpCk
import Derived.Test.YtggodknnfpegmaaDoorMSpMk
import Derived.Deep.MidRow
namespace Go.Proofs.YtggodknnfpegmaaDoor
open Go.RowKit
namespace Ex

/-- A family of sets: 256 words. -/
def famL (F : Nat → Nat) : List Value := (List.range 256).map fun i => Value.int .u64 ((wordAt (F (i / 2)) (i % 2) : Nat) : Int)
theorem famL_len (F : Nat → Nat) : (famL F).length = 256 := by simp [famL]
theorem famL_at (F : Nat → Nat) {i : Nat} (h : i < 256) : (famL F)[i]? = some (.int .u64 (wordAt (F (i / 2)) (i % 2) : Nat)) := by simp [famL, h]
theorem famL_word (F : Nat → Nat) {n i : Nat} (hn : n < 128) (hi : i < 2) : (famL F)[n * 2 + i]? = some (.int .u64 (wordAt (F n) i : Nat)) := by
  rw [famL_at F (by omega), show (n * 2 + i) / 2 = n by omega, show (n * 2 + i) % 2 = i by omega]
theorem famL_congr {F F' : Nat → Nat} (h : ∀ n, n < 128 → F n = F' n) : famL F = famL F' := by
  unfold famL
  apply List.map_congr_left
  intro i hi
  rw [h _ (by have := List.mem_range.1 hi; omega)]
theorem famL_set (F : Nat → Nat) (n A : Nat) : ((famL F).set (n * 2) (.int .u64 (wordAt A 0 : Nat))).set (n * 2 + 1) (.int .u64 (wordAt A 1 : Nat)) = famL (putV F n A) := by
  apply List.ext_getElem?
  intro i
  by_cases hi : i < 256
  · rw [famL_at _ hi]
    unfold putV
    by_cases e1 : i = n * 2 + 1
    · subst e1
      rw [List.getElem?_set_self (by rw [List.length_set, famL_len]; omega), if_pos (by omega), show (n * 2 + 1) % 2 = 1 by omega]
    · rw [List.getElem?_set_ne (by omega)]
      by_cases e0 : i = n * 2
      · subst e0
        rw [List.getElem?_set_self (by rw [famL_len]; omega), if_pos (by omega), show (n * 2) % 2 = 0 by omega]
      · rw [List.getElem?_set_ne (by omega), famL_at _ hi, if_neg (by omega)]
  · rw [List.getElem?_eq_none_iff.2 (by rw [List.length_set, List.length_set, famL_len]; omega), List.getElem?_eq_none_iff.2 (by rw [famL_len]; omega)]
theorem famL_one (F : Nat → Nat) : ∀ v ∈ famL F, v.oneCell' = true := by
  intro x hx
  obtain ⟨i, _, rfl⟩ := List.mem_map.1 hx
  rfl
theorem famL_all (F : Nat → Nat) : (famL F).toArray.all (·.oneCell') = true := by
  rw [Array.all_eq_true_iff_forall_mem]
  intro x hx
  exact famL_one F x (by simpa using hx)
/-- A block of cells. -/
def Blk (w : World) (b : Nat) (L : List Value) (t : TypeId) : Prop := w.heap[b]? = some (.cells L.toArray t (0, 0))
section
variable {w w' : World} {b c : Nat} {L : List Value} {t : TypeId}
theorem Blk.lt (h : Blk w b L t) : b < w.heap.size := (Array.getElem?_eq_some_iff.1 h).1
theorem Blk.keep (h : Blk w b L t) (hk : Kept w w') : Blk w' b L t := (hk.2.2.2.2 b h.lt).trans h
theorem Blk.but (h : Blk w b L t) (hk : KeptBut c w w') (hc : b ≠ c) : Blk w' b L t := (hk.2.2.2.2 b h.lt hc).trans h
theorem Blk.new (w : World) (L : List Value) (t : TypeId) : Blk (w.alloc (.cells L.toArray t)) w.heap.size L t := heap_alloc_new w _
theorem Blk.cell (h : Blk w b L t) {i : Nat} {v : Value} (hi : L[i]? = some v) : w.cell? ⟨b, i, none⟩ = some v := by
  unfold Blk at h
  simp only [World.cell?, h]
  simpa using hi
theorem Blk.free (h : Blk w b L t) (i : Nat) : w.frozen? ⟨b, i, none⟩ = false := by
  unfold Blk at h
  simp [World.frozen?, h]
theorem Blk.set (h : Blk w b L t) (k : Nat) (v : Value) : Blk (w.setCell ⟨b, k, none⟩ v) b (L.set k v) t := by
  unfold Blk at h ⊢
  have hl : b < w.heap.size := (Array.getElem?_eq_some_iff.1 h).1
  have he : w.heap[b] = Obj.cells L.toArray t (0, 0) := by rw [Array.getElem?_eq_getElem hl] at h; exact Option.some.inj h
  simp [World.setCell, Array.getElem_modify, hl, he]
theorem Blk.range (h : Blk w b L t) (o : Nat) (cs : List Value) (hc : ∀ j v, cs[j]? = some v → L[o + j]? = some v) : w.rangeAt b o cs := fun j v hv => h.cell (hc j v hv)
end
/-- A family in a block, alone. -/
def FaB (w : World) (b : Nat) (F : Nat → Nat) : Prop := Blk w b (famL F) 89
theorem FaB.set {w : World} {b : Nat} {F : Nat → Nat} (h : FaB w b F) (n A : Nat) : FaB ((w.setCell ⟨b, n * 2, none⟩ (.int .u64 (wordAt A 0 : Nat))).setCell ⟨b, n * 2 + 1, none⟩ (.int .u64 (wordAt A 1 : Nat))) b (putV F n A) := by
  unfold FaB
  rw [← famL_set F n A]
  exact (Blk.set h _ _).set _ _
theorem FaB.cells {w : World} {b n : Nat} {F : Nat → Nat} (h : FaB w b F) (hn : n < 128) : w.cell? ⟨b, n * 2, none⟩ = some (.int .u64 (wordAt (F n) 0 : Nat)) ∧ w.cell? ⟨b, n * 2 + 1, none⟩ = some (.int .u64 (wordAt (F n) 1 : Nat)) := ⟨Blk.cell h (famL_word F (i := 0) hn (by omega)), Blk.cell h (famL_word F (i := 1) hn (by omega))⟩
/-- A grammar: its spec, its empty names, its family. -/
def grL (x0 x1 x2 x3 : Value) (E : Nat) (F : Nat → Nat) : List Value := [x0, x1, x2, x3, .int .u64 (wordAt E 0 : Nat), .int .u64 (wordAt E 1 : Nat)] ++ famL F
theorem grL_len (x0 x1 x2 x3 : Value) (E : Nat) (F : Nat → Nat) : (grL x0 x1 x2 x3 E F).length = 262 := by simp [grL, famL_len]
theorem grL_fam (x0 x1 x2 x3 : Value) (E : Nat) (F : Nat → Nat) (i : Nat) : (grL x0 x1 x2 x3 E F)[6 + i]? = (famL F)[i]? := by
  unfold grL
  rw [List.getElem?_append_right (by simp)]
  simp
theorem grL_set (x0 x1 x2 x3 : Value) (E : Nat) (F : Nat → Nat) (n A : Nat) : ((grL x0 x1 x2 x3 E F).set (6 + n * 2) (.int .u64 (wordAt A 0 : Nat))).set (6 + n * 2 + 1) (.int .u64 (wordAt A 1 : Nat)) = grL x0 x1 x2 x3 E (putV F n A) := by
  unfold grL
  rw [← famL_set F n A, List.set_append_right _ _ (by simp only [List.length_cons, List.length_nil]; omega), List.set_append_right _ _ (by simp only [List.length_cons, List.length_nil]; omega)]
  simp only [List.length_cons, List.length_nil]
  rw [show 6 + n * 2 - (0 + 1 + 1 + 1 + 1 + 1 + 1) = n * 2 by omega, show 6 + n * 2 + 1 - (0 + 1 + 1 + 1 + 1 + 1 + 1) = n * 2 + 1 by omega]
def GrB (w : World) (b : Nat) (x0 x1 x2 x3 : Value) (E : Nat) (F : Nat → Nat) : Prop := Blk w b (grL x0 x1 x2 x3 E F) 91
section
variable {w w' : World} {b c : Nat} {x0 x1 x2 x3 : Value} {E : Nat} {F : Nat → Nat}
theorem GrB.spec (h : GrB w b x0 x1 x2 x3 E F) : w.cell? ⟨b, 0, none⟩ = some x0 ∧ w.cell? ⟨b, 1, none⟩ = some x1 ∧ w.cell? ⟨b, 2, none⟩ = some x2 ∧ w.cell? ⟨b, 3, none⟩ = some x3 := ⟨Blk.cell h rfl, Blk.cell h rfl, Blk.cell h rfl, Blk.cell h rfl⟩
theorem GrB.empty (h : GrB w b x0 x1 x2 x3 E F) : w.cell? ⟨b, 4, none⟩ = some (.int .u64 (wordAt E 0 : Nat)) ∧ w.cell? ⟨b, 5, none⟩ = some (.int .u64 (wordAt E 1 : Nat)) := ⟨Blk.cell h rfl, Blk.cell h rfl⟩
theorem GrB.fam (h : GrB w b x0 x1 x2 x3 E F) {n : Nat} (hn : n < 128) : w.cell? ⟨b, 6 + n * 2, none⟩ = some (.int .u64 (wordAt (F n) 0 : Nat)) ∧ w.cell? ⟨b, 6 + n * 2 + 1, none⟩ = some (.int .u64 (wordAt (F n) 1 : Nat)) := ⟨Blk.cell h ((grL_fam x0 x1 x2 x3 E F (n * 2)).trans (famL_word F (i := 0) hn (by omega))), Blk.cell h ((grL_fam x0 x1 x2 x3 E F (n * 2 + 1)).trans (famL_word F (i := 1) hn (by omega)))⟩
theorem GrB.set (h : GrB w b x0 x1 x2 x3 E F) (n A : Nat) : GrB ((w.setCell ⟨b, 6 + n * 2, none⟩ (.int .u64 (wordAt A 0 : Nat))).setCell ⟨b, 6 + n * 2 + 1, none⟩ (.int .u64 (wordAt A 1 : Nat))) b x0 x1 x2 x3 E (putV F n A) := by
  unfold GrB
  rw [← grL_set x0 x1 x2 x3 E F n A]
  exact (Blk.set h _ _).set _ _
theorem GrB.range (h : GrB w b x0 x1 x2 x3 E F) : w.rangeAt b 6 (famL F) := Blk.range h 6 (famL F) (fun j _ hv => (grL_fam x0 x1 x2 x3 E F j).trans hv)
end
theorem fam_size (F : Nat → Nat) : (Tryd.prog.info? 89).map (·.size) = some (famL F).length := by rw [famL_len]; kernel_rfl
theorem fam_sizeA (F : Nat → Nat) : (Tryd.prog.info? 89).map (·.size) = some (famL F).toArray.size := by rw [List.size_toArray, famL_len]; kernel_rfl
theorem gr_size (x0 x1 x2 x3 : Value) (E : Nat) (F : Nat → Nat) : (Tryd.prog.info? 91).map (·.size) = some (grL x0 x1 x2 x3 E F).toArray.size := by rw [List.size_toArray, grL_len]; kernel_rfl
/-- Two families compared. -/
theorem part_set (xs : Array Value) (k : Nat) (w : World) : (part 85 xs k).run Tryd.prog w = .ok (.agg (xs.extract k (k + 2))) w := by
  have hu : Tryd.prog.underlying 85 = some (.array 2 83) := by kernel_rfl
  have hs : (Tryd.prog.info? 85).map (·.size) = some 2 := by kernel_rfl
  obtain ⟨i0, h0, h1⟩ := Option.map_eq_some_iff.1 hs
  simp [part, isAgg, run_underlying hu, sizeOf, typeInfo, h0, h1]
theorem fam_part (F : Nat → Nat) {n : Nat} (hn : n < 128) : (famL F).toArray.extract (n * 2) (n * 2 + 2) = #[.int .u64 (wordAt (F n) 0 : Nat), .int .u64 (wordAt (F n) 1 : Nat)] := by
  apply Array.ext_getElem?
  intro i
  rw [Array.getElem?_extract]
  have h0 := famL_word F (i := 0) hn (by omega)
  have h1 := famL_word F (i := 1) hn (by omega)
  have hl : (famL F).toArray.size = 256 := by rw [List.size_toArray, famL_len]
  match i with
  | 0 => rw [if_pos (by rw [hl]; omega)]; simpa using h0
  | 1 => rw [if_pos (by rw [hl]; omega)]; simpa using h1
  | i + 2 => rw [if_neg (by rw [hl]; omega)]; rfl
theorem eqItems_fam (d : Nat) {F F0 : Nat → Nat} (hF : ∀ n, F n < 2 ^ 128) (h0 : ∀ n, F0 n < 2 ^ 128) (w : World) : ∀ is : List Nat, (∀ i ∈ is, i < 128) → (Op.eqItems (d + 2) 85 2 (famL F).toArray (famL F0).toArray is).run Tryd.prog w = .ok (is.all fun i => F i == F0 i) w
  | [], _ => by simp [Op.eqItems]
  | i :: is, h => by
    have hi := h i List.mem_cons_self
    simp only [Op.eqItems, Sem.run_bind]
    rw [part_set, fam_part F hi]
    simp only [Result.andThen_ok]
    rw [part_set, fam_part F0 hi]
    simp only [Result.andThen_ok]
    rw [eq_words w d, words_b (hF i) (h0 i)]
    simp only [Result.andThen_ok, List.all_cons]
    cases hb : (F i == F0 i) with
    | false => simp
    | true =>
      simp only [Bool.not_true, Bool.false_eq_true, if_false, Bool.true_and]
      exact eqItems_fam d hF h0 w is (fun j hj => h j (List.mem_cons_of_mem _ hj))
theorem neq_fam {F F0 : Nat → Nat} (hF : ∀ n, F n < 2 ^ 128) (h0 : ∀ n, F0 n < 2 ^ 128) (w : World) : (binOp .neq 89 (.agg (famL F).toArray) (.agg (famL F0).toArray)).run Tryd.prog w = .ok (.bool (!eqV F F0)) w := by
  have hu : Tryd.prog.underlying 89 = some (.array 128 85) := by kernel_rfl
  have hi0 : (Tryd.prog.info? 85).isSome = true := by kernel_rfl
  obtain ⟨i, hi⟩ := Option.isSome_iff_exists.1 hi0
  have hc : Tryd.prog.cellsOf 85 = 2 := by kernel_rfl
  rw [run_neq_struct, run_equalIn_array w 9999 _ _ hu hi, hc, eqItems_fam 9997 hF h0 w _ (fun i hi => List.mem_range.1 hi)]
  rfl
theorem zero_fam : Tryd.zeroCells89 = (famL fun _ => 0).toArray := by kernel_rfl
theorem fam_zero (w : World) : FaB (w.alloc (.cells Tryd.zeroCells89 89)) w.heap.size (fun _ => 0) := by
  rw [zero_fam]
  exact Blk.new w _ _
/-- How much of a family is left out. -/
def leftF (F : Nat → Nat) : Nat := sumV (fun n => leftS (F n)) 128
theorem leftF_lt {F F' : Nat → Nat} (hF : ∀ n, F n < 2 ^ 128) (hF' : ∀ n, F' n < 2 ^ 128) (h : ∀ x, famS F x → famS F' x) (hn : eqV F' F = false) : leftF F' < leftF F := by
  obtain ⟨i, hi, hne⟩ := eqV_not hn
  exact sumV_lt (fun n => leftS_le (A := F n) (B := F' n) (fun t ht => h (n, t) ht) (hF n) (hF' n)) hi (leftS_lt (A := F i) (B := F' i) (fun t ht => h (i, t) ht) (hF i) (hF' i) (fun e => hne e.symm))

end Ex
end Go.Proofs.YtggodknnfpegmaaDoor
namespace Go.Proofs.YtggodknnfpegmaaDoor
open Go.RowKit
attribute [local go_sem] Oper.semAt_some
namespace Ex

theorem GrB.lt {w : World} {b : Nat} {x0 x1 x2 x3 : Value} {E : Nat} {F : Nat → Nat} (h : GrB w b x0 x1 x2 x3 E F) : b < w.heap.size := Blk.lt h
theorem GrB.keep {w w' : World} {b : Nat} {x0 x1 x2 x3 : Value} {E : Nat} {F : Nat → Nat} (h : GrB w b x0 x1 x2 x3 E F) (hk : Kept w w') : GrB w' b x0 x1 x2 x3 E F := Blk.keep h hk
theorem GrB.but {w w' : World} {b c : Nat} {x0 x1 x2 x3 : Value} {E : Nat} {F : Nat → Nat} (h : GrB w b x0 x1 x2 x3 E F) (hk : KeptBut c w w') (hc : b ≠ c) : GrB w' b x0 x1 x2 x3 E F := Blk.but h hk hc
theorem hd_start (w : World) (N : Nat) : SetB (((w.alloc (.cells (setS N) 85)).alloc (.cells #[.int .u64 0, .int .u64 0] 85)).alloc (.cells #[.int .u64 0, .int .u64 0] 85)) w.heap.size N ∧ SetB (((w.alloc (.cells (setS N) 85)).alloc (.cells #[.int .u64 0, .int .u64 0] 85)).alloc (.cells #[.int .u64 0, .int .u64 0] 85)) (w.heap.size + 1) 0 ∧ SetB (((w.alloc (.cells (setS N) 85)).alloc (.cells #[.int .u64 0, .int .u64 0] 85)).alloc (.cells #[.int .u64 0, .int .u64 0] 85)) (w.heap.size + 1 + 1) 0 ∧ Kept w (((w.alloc (.cells (setS N) 85)).alloc (.cells #[.int .u64 0, .int .u64 0] 85)).alloc (.cells #[.int .u64 0, .int .u64 0] 85)) := by
  obtain ⟨h1, h2, h3⟩ := set_two w N
  have hk : Kept ((w.alloc (.cells (setS N) 85)).alloc (.cells #[.int .u64 0, .int .u64 0] 85)) (((w.alloc (.cells (setS N) 85)).alloc (.cells #[.int .u64 0, .int .u64 0] 85)).alloc (.cells #[.int .u64 0, .int .u64 0] 85)) := (Kept.refl _).alloc _ _
  have h4 := heap_alloc_new ((w.alloc (.cells (setS N) 85)).alloc (.cells #[.int .u64 0, .int .u64 0] 85)) (.cells #[.int .u64 0, .int .u64 0] 85)
  rw [World.size_alloc, World.size_alloc] at h4
  exact ⟨h2.keep hk, h1.keep hk, h4, gtrans h3 hk⟩
def HdI (nl E : Nat) (F : Nat → Nat) (nx : Nat) (row : List SymM) (b : Nat) (w : World) (vi : Value) (wr : World) : Prop := ∃ j B : Nat, vi = .int .i64 (j : Int) ∧ j ≤ row.length ∧ Hid (headsM nl E F nx row 0 = headsM nl E F nx (row.drop j) B) ∧ Hid (SetB wr b nx ∧ SetB wr (b + 1) 0 ∧ SetB wr (b + 1 + 1) B) ∧ Hid (Kept w wr)
set_option linter.unusedSimpArgs false in
set_option maxRecDepth 100000 in
set_option maxHeartbeats 8000000 in
/-- With what a row begins. -/
theorem gHeads_is (gb E nx nl : Nat) (F : Nat → Nat) (al : Option Addr) (cl : Nat) (x1 x3 : Value) (st : Int) (ar : Option Addr) (nr cr : Nat) (row : List SymM) (w : World) (hnl : nl < 128) (hrow : row.length = nr) (hr : RightAt w (.slice ar nr cr) row) (hA : GrB w gb (.slice al nl cl) x1 (.int .i64 st) x3 E F) (hg : ∀ x ∈ row, SymGood x) :
    Calls Tryd.prog 39 #[.pointer (some ⟨gb, 0, none⟩), .slice ar nr cr, .agg (setS nx)] w fun e w' => e = .returned (.agg (setS (headsM nl E F nx row 0))) ∧ Kept w w' := by
  have HROW := hide1 hrow
  have HR := hide1 hr
  have HG := hide1 hg
  have HNL := hide1 hnl
  have HA := hide1 hA
  obtain ⟨_, _, e1, hc, hn⟩ := hr.len
  simp only [Value.slice.injEq] at e1
  obtain ⟨rfl, en, rfl⟩ := e1
  clear en
  rw [hrow] at hc hn
  have gn : (nr : Int) ≤ 17592186044416 := by omega
  obtain ⟨h1, h2, h3, h4⟩ := hd_start w nx
  have HS : Hid (SetB (((w.alloc (.cells (setS nx) 85)).alloc (.cells #[.int .u64 0, .int .u64 0] 85)).alloc (.cells #[.int .u64 0, .int .u64 0] 85)) w.heap.size nx ∧ SetB (((w.alloc (.cells (setS nx) 85)).alloc (.cells #[.int .u64 0, .int .u64 0] 85)).alloc (.cells #[.int .u64 0, .int .u64 0] 85)) (w.heap.size + 1) 0 ∧ SetB (((w.alloc (.cells (setS nx) 85)).alloc (.cells #[.int .u64 0, .int .u64 0] 85)).alloc (.cells #[.int .u64 0, .int .u64 0] 85)) (w.heap.size + 1 + 1) 0) := ⟨h1, h2, h3⟩
  have HK := hide1 h4
  have HGB := hide1 hA.lt
  clear hrow hr hg hnl hA h1 h2 h3 h4
  go_enter Tryd.func39, Tryd.ntmps39
  go_upto_region 2 with fail
  obtain ⟨W, hW⟩ : ∃ W, ((w.alloc (.cells (setS nx) 85)).alloc (.cells #[.int .u64 0, .int .u64 0] 85)).alloc (.cells #[.int .u64 0, .int .u64 0] 85) = W := ⟨_, rfl⟩
  rw [hW] at HS HK ⊢
  clear hW
  obtain ⟨b, hb⟩ : ∃ b, w.heap.size = b := ⟨_, rfl⟩
  rw [hb] at HS HGB ⊢
  have HB := hide1 hb
  clear hb
  go_wp2_with fail
  go_loopw [12] (HdI nl E F nx row b w) (fun i _ => nr - (intOf i).toNat)
  case atStart => exact ⟨0, 0, rfl, Nat.zero_le _, rfl, HS, HK⟩
  case round =>
    obtain ⟨j, B, rfl, hj, HM, HSr, HKr⟩ := hrel
    rw [HROW.out] at hj
    by_cases hlt : (j : Int) < (nr : Int)
    · obtain ⟨x, hx⟩ : ∃ x, row[j]? = some x := ⟨_, List.getElem?_eq_getElem (by have := HROW.out; omega)⟩
      obtain ⟨cb, ob, cs, ea, hcb, hlen, hcell, hcs⟩ := SliceOf.el (HR.out.keep HKr.out) hx
      have hcs : cs = [.int .i64 x.1, .int .i64 x.2] := hcs
      subst ea hcs
      have k0 : wr.cell? ⟨cb, ob + j * 2, none⟩ = some (.int .i64 x.1) := hcell 0 _ rfl
      have k1 := hcell 1 _ rfl
      have HGX := hide1 (HG.out x (List.mem_of_getElem? hx))
      have gjc : (j : Int) < (cr : Int) := by omega
      have HDR : Hid (row.drop j = x :: row.drop (j + 1)) := by
        obtain ⟨hj2, e⟩ := List.getElem?_eq_some_iff.1 hx
        show _ = _
        rw [List.drop_eq_getElem_cons hj2, e]
      obtain ⟨kd, nn⟩ := x
      clear hx hcell
      have HX := hide1 (XBox.new wr kd nn)
      have HK4 : Hid (Kept wr (wr.alloc (.cells #[.int .i64 kd, .int .i64 nn] 68))) := (Kept.refl wr).alloc _ _
      have HXL : Hid (b + 1 + 1 < wr.heap.size) := HSr.out.2.2.lt
      go_upto_region 5 with fail
      clear k0 k1
      obtain ⟨W4, hW4⟩ : ∃ W4, wr.alloc (.cells #[.int .i64 kd, .int .i64 nn] 68) = W4 := ⟨_, rfl⟩
      rw [hW4] at HX HK4 ⊢
      clear hW4
      obtain ⟨xb, hxb⟩ : ∃ xb, wr.heap.size = xb := ⟨_, rfl⟩
      rw [hxb] at HX HXL ⊢
      clear hxb
      have HXR : Hid (xb ≠ b + 1) := by have := HXL.out; show _ ≠ _; omega
      have HXO : Hid (xb ≠ b + 1 + 1) := by have := HXL.out; show _ ≠ _; omega
      have HGR : Hid (gb ≠ b + 1) := by have := HGB.out; show _ ≠ _; omega
      have HGO : Hid (gb ≠ b + 1 + 1) := by have := HGB.out; show _ ≠ _; omega
      have HN4 := hide1 (HSr.out.1.keep HK4.out)
      have HR4 := hide1 (HSr.out.2.1.keep HK4.out)
      have HO4 := hide1 (HSr.out.2.2.keep HK4.out)
      have HG4 := hide1 (HA.out.keep (gtrans HKr.out HK4.out))
      have HKw := hide1 (gtrans HKr.out HK4.out)
      have t0 := HX.out.cells.1
      by_cases h3 : kd = 3
      · subst h3
        obtain ⟨hn0, hn1⟩ := HGX.out.1 rfl
        obtain ⟨p, rfl⟩ : ∃ p : Nat, nn = (p : Int) := ⟨nn.toNat, by simp only at hn0; omega⟩
        have HP : Hid (p < 128) := by simp only at hn1; show _ < _; omega
        have gp : (p : Int) < 128 := by have := HP.out; omega
        have HD2 : Hid (headsM nl E F nx row 0 = if E.testBit p then headsM nl E F nx (row.drop (j + 1)) (B ||| F p) else B ||| F p) := by
          show _ = _
          rw [HM.out, HDR.out]
          show (if (3 : Int) = 3 then _ else _) = _
          rw [if_pos rfl]
          rfl
        clear hn0 hn1 HDR HM
        go_upto_region 7 with fail
        clear t0
        refine wp_region_held_drew (S := fun X => KeptBut (b + 1 + 1) W4 X) (by kernel_rfl) (but_refl (b + 1 + 1) W4) (fun hHeld => ?_)
        refine wpAnyH_take (i := 1) (v := .pointer (some ⟨gb, 0, none⟩)) rfl (by kernel_rfl) (by kernel_rfl) (by kernel_rfl) (fun _ _ _ h => h) (Or.inl ⟨by rfl, fun w' hSw => ?_⟩) (by with_reducible assumption) ?_
        · clear hSw
          go_simp
        try simp only [Act.put, List.setIfInBounds_toArray, List.set_cons_zero, List.set_cons_succ]
        refine wpAnyH_take (i := 2) (v := .pointer (some ⟨xb, 1, none⟩)) rfl (by kernel_rfl) (by kernel_rfl) (by kernel_rfl) (fun _ _ _ h => h) (Or.inl ⟨by rfl, fun w' hSw => ?_⟩) (by with_reducible assumption) ?_
        · clear hSw
          go_simp
        try simp only [Act.put, List.setIfInBounds_toArray, List.set_cons_zero, List.set_cons_succ]
        refine wpAnyH_take (i := 3) (v := .int .i64 (p : Int)) rfl (by kernel_rfl) (by kernel_rfl) (by kernel_rfl) (fun _ _ _ h => h) (Or.inl ⟨by rfl, fun w' hSw => ?_⟩) (by with_reducible assumption) ?_
        · have s0 := (XBox.but HX.out hSw HXO.out).cells.2
          clear hSw
          go_simp
        try simp only [Act.put, List.setIfInBounds_toArray, List.set_cons_zero, List.set_cons_succ]
        refine wpAnyH_take (i := 4) (v := .pointer (some ⟨gb, 0, none⟩)) rfl (by kernel_rfl) (by kernel_rfl) (by kernel_rfl) (fun _ _ _ h => h) (Or.inl ⟨by rfl, fun w' hSw => ?_⟩) (by with_reducible assumption) ?_
        · clear hSw
          go_simp
        try simp only [Act.put, List.setIfInBounds_toArray, List.set_cons_zero, List.set_cons_succ]
        refine wpAnyH_take (i := 5) (v := .pointer (some ⟨gb, 6, none⟩)) rfl (by kernel_rfl) (by kernel_rfl) (by kernel_rfl) (fun _ _ _ h => h) (Or.inl ⟨by rfl, fun w' hSw => ?_⟩) (by with_reducible assumption) ?_
        · clear hSw
          go_simp
        try simp only [Act.put, List.setIfInBounds_toArray, List.set_cons_zero, List.set_cons_succ]
        refine wpAnyH_take (i := 6) (v := .pointer (some ⟨gb, 6 + p * 2, none⟩)) rfl (by kernel_rfl) (by kernel_rfl) (by kernel_rfl) (fun _ _ _ h => h) (Or.inl ⟨by rfl, fun w' hSw => ?_⟩) (by with_reducible assumption) ?_
        · clear hSw
          go_simp
        try simp only [Act.put, List.setIfInBounds_toArray, List.set_cons_zero, List.set_cons_succ]
        refine wpAnyH_take (i := 7) (v := .agg #[.int .u64 (wordAt (F p) 0 : Nat), .int .u64 (wordAt (F p) 1 : Nat)]) rfl (by kernel_rfl) (by kernel_rfl) (by kernel_rfl) (fun _ _ _ h => h) (Or.inl ⟨by rfl, fun w' hSw => ?_⟩) (by with_reducible assumption) ?_
        · obtain ⟨s0, s1⟩ := (HG4.out.but hSw HGO.out).fam HP.out
          clear hSw
          go_simp
        try simp only [Act.put, List.setIfInBounds_toArray, List.set_cons_zero, List.set_cons_succ]
        refine wpAnyH_ready (rs := [0]) (by kernel_rfl) (by simp) ?_
        refine AllReadyH.cons (i := 0) rfl (fun K hK => ?_) AllReadyH.nil
        have a0 : W4.drew.cell? ⟨b + 1 + 1, 0, none⟩ = some (.int .u64 (wordAt B 0 : Nat)) := HO4.out.cell (i := 0) (by omega)
        have a1 : W4.drew.cell? ⟨b + 1 + 1, 1, none⟩ = some (.int .u64 (wordAt B 1 : Nat)) := HO4.out.cell (i := 1) (by omega)
        go_simp
        clear a0 a1
        refine hK.out _ _ hHeld (fun hHeld2 => ?_)
        clear hK K hHeld
        have hHeld := hHeld2
        clear hHeld2
        try simp only [Act.put, List.setIfInBounds_toArray, List.set_cons_zero, List.set_cons_succ]
        refine wpAnyH_ready (rs := [8]) (by kernel_rfl) (by simp) ?_
        refine AllReadyH.cons (i := 8) rfl (fun K hK => ?_) AllReadyH.nil
        go_simp
        go_wp2_with (go_at_call 75; refine (sOr_is B (F p) _).mono ?_; rintro e w7 ⟨rfl, hk7⟩; rw [setS_eq]; have HK7 := hide1 (gtrans (drew_kept W4) hk7); clear hk7)
        refine hK.out _ _ (HK7.out.but (b + 1 + 1)) (fun hHeld2 => ?_)
        clear hK K hHeld
        have hHeld := hHeld2
        clear hHeld2
        try simp only [Act.put, List.setIfInBounds_toArray, List.set_cons_zero, List.set_cons_succ]
        refine wpAnyH_ready (rs := [9]) (by kernel_rfl) (by simp) ?_
        refine AllReadyH.cons (i := 9) rfl (fun K hK => ?_) AllReadyH.nil
        have HA7 := hide1 (HO4.out.keep HK7.out)
        have a0 := HA7.out.cell (i := 0) (by omega)
        have a1 := HA7.out.cell (i := 1) (by omega)
        have z0 := HA7.out.free 0
        have z1 := HA7.out.free 1
        go_simp
        clear a0 a1 z0 z1
        have HA8 := hide1 (HA7.out.fill (B := B ||| F p))
        have HK8 : Hid (KeptBut (b + 1 + 1) W4 ((w7.setCell ⟨b + 1 + 1, 0, none⟩ (.int .u64 (wordAt (B ||| F p) 0 : Nat))).setCell ⟨b + 1 + 1, 1, none⟩ (.int .u64 (wordAt (B ||| F p) 1 : Nat)))) := but_set (but_set (HK7.out.but (b + 1 + 1)) _ _) _ _
        refine hK.out _ _ HK8.out (fun hHeld2 => ?_)
        clear hK K hHeld
        have hHeld := hHeld2
        clear hHeld2
        try simp only [Act.put, List.setIfInBounds_toArray, List.set_cons_zero, List.set_cons_succ]
        refine wpAnyH_done (by kernel_rfl) ?_ _
        clear hHeld
        obtain ⟨W8, hW8⟩ : ∃ W8, (w7.setCell ⟨b + 1 + 1, 0, none⟩ (.int .u64 (wordAt (B ||| F p) 0 : Nat))).setCell ⟨b + 1 + 1, 1, none⟩ (.int .u64 (wordAt (B ||| F p) 1 : Nat)) = W8 := ⟨_, rfl⟩
        rw [hW8] at HA8 HK8 ⊢
        clear hW8
        have HKw8 : Hid (Kept w W8) := KeptBut.up HKw.out (by rw [HB.out]; omega) HK8.out
        have HN8 := hide1 (HN4.out.but HK8.out (by omega))
        have HR8 := hide1 (HR4.out.but HK8.out (by omega))
        have HG8 := hide1 (HG4.out.but HK8.out HGO.out)
        have HX8 := hide1 (HX.out.but HK8.out HXO.out)
        go_upto_region 8 with fail
        obtain ⟨em, hem⟩ : ∃ em, E.testBit p = em := ⟨_, rfl⟩
        have HEM := hide1 hem
        rw [hem] at HD2
        clear hem
        have k0 := keeps HX8.out.cells.2
        have k1 := keeps HG8.out.empty.1
        have k2 := keeps HG8.out.empty.2
        have hkr : Kept W8 W8 := Kept.refl W8
        go_region_held3 (fun w' => Kept W8 w') (first | assumption | exact Kept.refl _ | exact gtrans (by assumption) (by assumption))
          ((go_at_call 48; refine (sHas_is E p HP.out _).mono ?_; rintro e w11 ⟨rfl, hk11⟩; rw [HEM.out]; have k11 : Kept W8 w11 := gtrans (by assumption) hk11))
        have HK11 := hide1 k11
        clear k0 k1 k2 hkr hk11 k11
        cases em
        · have HR9 := hide1 (HR8.out.keep HK11.out)
          have HO9 := hide1 (HA8.out.keep HK11.out)
          have c0 := HO9.out.cell (i := 0) (by omega)
          have c1 := HO9.out.cell (i := 1) (by omega)
          have r0 := HR9.out.cell (i := 0) (by omega)
          have r1 := HR9.out.cell (i := 1) (by omega)
          have z0 := HR9.out.free 0
          have z1 := HR9.out.free 1
          go_wp2_with fail
          refine bodyPost_ret (results_cell_row rfl _ _ (b + 1) 85 (setS (B ||| F p)) (0, 0) _ rfl HR9.out.fill Tryd.underlying85 rfl (set2_size _)) rfl ?_
          exact ⟨by rw [HD2.out]; rfl, keepB (keepB (gtrans HKw8.out HK11.out) (by rw [HB.out]; omega)) (by rw [HB.out]; omega)⟩
        · go_wp2_with fail
          go_roundw
          case rel => exact ⟨j + 1, _, by go_num, by rw [HROW.out]; omega, HD2, ⟨HN8.out.keep HK11.out, HR8.out.keep HK11.out, HA8.out.keep HK11.out⟩, gtrans HKw8.out HK11.out⟩
          case measure => simp [intOf]; omega
      · obtain ⟨q, hq⟩ : ∃ q, termN nl (kd, nn) = q := ⟨_, rfl⟩
        have HQ8 : Hid (q < 128 ∧ termP nl (kd, nn) = (q : Int)) := by
          have h1 := HGX.out.2 h3
          have h2 := HNL.out
          show _ ∧ _
          unfold termN at hq
          unfold termP
          by_cases e2 : kd = 2
          · rw [if_pos (show (kd, nn).1 = 2 from e2)] at hq ⊢
            omega
          · rw [if_neg (show ¬ (kd, nn).1 = 2 from e2)] at hq ⊢
            obtain ⟨a1, a2⟩ := h1 e2
            simp only at a1 a2 hq ⊢
            omega
        have HD2 : Hid (headsM nl E F nx row 0 = B ||| 2 ^ q) := by
          show _ = _
          rw [HM.out, HDR.out]
          show (if kd = 3 then _ else _) = _
          rw [if_neg h3, hq]
        have hb3 : (kd != 3) = true := by simpa using h3
        clear h3 hq HDR HM
        go_upto_region 6 with fail
        clear t0
        refine wp_region_held_drew (S := fun X => KeptBut (b + 1) W4 X) (by kernel_rfl) (but_refl (b + 1) W4) (fun hHeld => ?_)
        refine wpAnyH_take (i := 0) (v := .agg #[.int .u64 (wordAt B 0 : Nat), .int .u64 (wordAt B 1 : Nat)]) rfl (by kernel_rfl) (by kernel_rfl) (by kernel_rfl) (fun _ _ _ h => h) (Or.inl ⟨by rfl, fun w' hSw => ?_⟩) (by with_reducible assumption) ?_
        · have s0 := (HO4.out.but hSw (by omega)).cell (i := 0) (by omega)
          have s1 := (HO4.out.but hSw (by omega)).cell (i := 1) (by omega)
          clear hSw
          go_simp
        try simp only [Act.put, List.setIfInBounds_toArray, List.set_cons_zero, List.set_cons_succ]
        refine wpAnyH_take (i := 1) (v := .pointer (some ⟨gb, 0, none⟩)) rfl (by kernel_rfl) (by kernel_rfl) (by kernel_rfl) (fun _ _ _ h => h) (Or.inl ⟨by rfl, fun w' hSw => ?_⟩) (by with_reducible assumption) ?_
        · clear hSw
          go_simp
        try simp only [Act.put, List.setIfInBounds_toArray, List.set_cons_zero, List.set_cons_succ]
        refine wpAnyH_take (i := 2) (v := .pointer (some ⟨gb, 0, none⟩)) rfl (by kernel_rfl) (by kernel_rfl) (by kernel_rfl) (fun _ _ _ h => h) (Or.inl ⟨by rfl, fun w' hSw => ?_⟩) (by with_reducible assumption) ?_
        · clear hSw
          go_simp
        try simp only [Act.put, List.setIfInBounds_toArray, List.set_cons_zero, List.set_cons_succ]
        refine wpAnyH_take (i := 3) (v := .pointer (some ⟨gb, 0, none⟩)) rfl (by kernel_rfl) (by kernel_rfl) (by kernel_rfl) (fun _ _ _ h => h) (Or.inl ⟨by rfl, fun w' hSw => ?_⟩) (by with_reducible assumption) ?_
        · clear hSw
          go_simp
        try simp only [Act.put, List.setIfInBounds_toArray, List.set_cons_zero, List.set_cons_succ]
        refine wpAnyH_take (i := 4) (v := .agg #[.slice al nl cl, x1, .int .i64 st, x3]) rfl (by kernel_rfl) (by kernel_rfl) (by kernel_rfl) (fun _ _ _ h => h) (Or.inl ⟨by rfl, fun w' hSw => ?_⟩) (by with_reducible assumption) ?_
        · obtain ⟨s0, s1, s2, s3⟩ := (HG4.out.but hSw HGR.out).spec
          clear hSw
          go_simp
        try simp only [Act.put, List.setIfInBounds_toArray, List.set_cons_zero, List.set_cons_succ]
        refine wpAnyH_take (i := 5) (v := .agg #[.int .i64 kd, .int .i64 nn]) rfl (by kernel_rfl) (by kernel_rfl) (by kernel_rfl) (fun _ _ _ h => h) (Or.inl ⟨by rfl, fun w' hSw => ?_⟩) (by with_reducible assumption) ?_
        · obtain ⟨s0, s1⟩ := (HX.out.but hSw HXR.out).cells
          clear hSw
          go_simp
        try simp only [Act.put, List.setIfInBounds_toArray, List.set_cons_zero, List.set_cons_succ]
        refine wpAnyH_ready (rs := [6]) (by kernel_rfl) (by simp) ?_
        refine AllReadyH.cons (i := 6) rfl (fun K hK => ?_) AllReadyH.nil
        go_simp
        go_wp2_with (go_at_call 76; refine (terminal_is al nl cl (by have := HNL.out; omega) x1 x3 st kd nn _).mono ?_; rintro e w6 ⟨rfl, hk6⟩; rw [HQ8.out.2]; have HK6 := hide1 (gtrans (drew_kept W4) hk6); clear hk6)
        refine hK.out _ _ (HK6.out.but (b + 1)) (fun hHeld2 => ?_)
        clear hK K hHeld
        have hHeld := hHeld2
        clear hHeld2
        try simp only [Act.put, List.setIfInBounds_toArray, List.set_cons_zero, List.set_cons_succ]
        refine wpAnyH_ready (rs := [7]) (by kernel_rfl) (by simp) ?_
        refine AllReadyH.cons (i := 7) rfl (fun K hK => ?_) AllReadyH.nil
        go_simp
        go_wp2_with (go_at_call 72; refine (sWith_is B q HQ8.out.1 _).mono ?_; rintro e w7 ⟨rfl, hk7⟩; rw [setS_eq]; have HK7 := hide1 (gtrans HK6.out hk7); clear hk7)
        refine hK.out _ _ (HK7.out.but (b + 1)) (fun hHeld2 => ?_)
        clear hK K hHeld
        have hHeld := hHeld2
        clear hHeld2
        try simp only [Act.put, List.setIfInBounds_toArray, List.set_cons_zero, List.set_cons_succ]
        refine wpAnyH_ready (rs := [8]) (by kernel_rfl) (by simp) ?_
        refine AllReadyH.cons (i := 8) rfl (fun K hK => ?_) AllReadyH.nil
        have HA7 := hide1 (HR4.out.keep HK7.out)
        have a0 := HA7.out.cell (i := 0) (by omega)
        have a1 := HA7.out.cell (i := 1) (by omega)
        have z0 := HA7.out.free 0
        have z1 := HA7.out.free 1
        go_simp
        clear a0 a1 z0 z1
        have HA8 := hide1 (HA7.out.fill (B := B ||| 2 ^ q))
        have HK8 : Hid (KeptBut (b + 1) W4 ((w7.setCell ⟨b + 1, 0, none⟩ (.int .u64 (wordAt (B ||| 2 ^ q) 0 : Nat))).setCell ⟨b + 1, 1, none⟩ (.int .u64 (wordAt (B ||| 2 ^ q) 1 : Nat)))) := but_set (but_set (HK7.out.but (b + 1)) _ _) _ _
        refine hK.out _ _ HK8.out (fun hHeld2 => ?_)
        clear hK K hHeld
        have hHeld := hHeld2
        clear hHeld2
        try simp only [Act.put, List.setIfInBounds_toArray, List.set_cons_zero, List.set_cons_succ]
        refine wpAnyH_done (by kernel_rfl) ?_ _
        clear hHeld
        go_wp2_with fail
        refine bodyPost_ret (results_cell_row rfl _ _ (b + 1) 85 (setS (B ||| 2 ^ q)) (0, 0) _ rfl HA8.out Tryd.underlying85 rfl (set2_size _)) rfl ?_
        exact ⟨by rw [HD2.out], KeptBut.up HKw.out (by rw [HB.out]; omega) HK8.out⟩
    · have HD2 : Hid (headsM nl E F nx row 0 = B ||| nx) := by
        show _ = _
        rw [HM.out, List.drop_of_length_le (by have := HROW.out; omega)]
        rfl
      have c0 := HSr.out.2.2.cell (i := 0) (by omega)
      have c1 := HSr.out.2.2.cell (i := 1) (by omega)
      have n0 := HSr.out.1.cell (i := 0) (by omega)
      have n1 := HSr.out.1.cell (i := 1) (by omega)
      go_wp2_with (go_at_call 75; refine (sOr_is B nx _).mono ?_; rintro e w7 ⟨rfl, hk7⟩; rw [setS_eq]; have HK7 := hide1 hk7; have HR7 := hide1 (HSr.out.2.1.keep hk7); have r0 := HR7.out.cell (i := 0) (by omega); have r1 := HR7.out.cell (i := 1) (by omega); have z0 := HR7.out.free 0; have z1 := HR7.out.free 1; clear hk7)
      refine bodyPost_ret (results_cell_row rfl _ _ (b + 1) 85 (setS (B ||| nx)) (0, 0) _ rfl HR7.out.fill Tryd.underlying85 rfl (set2_size _)) rfl ?_
      exact ⟨by rw [HD2.out], keepB (keepB (gtrans HKr.out HK7.out) (by rw [HB.out]; omega)) (by rw [HB.out]; omega)⟩

end Ex
end Go.Proofs.YtggodknnfpegmaaDoor
