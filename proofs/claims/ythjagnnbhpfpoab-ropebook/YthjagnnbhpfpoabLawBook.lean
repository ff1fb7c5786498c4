import Derived.Test.YthjagnnbhpfpoabBookAll
namespace Go.Proofs.Ythjagnnbhpfpoab
open Go.RowKit
attribute [local go_sem] Oper.semAt_some
namespace Rope
attribute [local simp] wide_fn

def marks (Ds : List Nat) : List Deferred := Ds.map fun D => ({ target := .collected D, args := #[] } : Deferred)
/-- RopeBook's frame between two rounds of its loops. -/
def BookF (c : Option Addr) (nz cap3 bq br bk bP : Nat) (v9 v10 v11 : Value) (ds : List Deferred) (a' : Act) : Prop :=
  ∃ T : Nat → Value, a' = { tmps := #[T 0, Value.slice c nz cap3, T 2, T 3, Value.pointer (some { block := bq, off := 0 }), Value.pointer (some { block := bP, off := 0 }), Value.pointer (some { block := br, off := 0 }), T 7, Value.pointer (some { block := bk, off := 0 }), v9, v10, v11, T 12, T 13, T 14, T 15, T 16, T 17, T 18, T 19, T 20, T 21, T 22, T 23, T 24, T 25, T 26, T 27, T 28, T 29, T 30, T 31, T 32, T 33, T 34, T 35, T 36, T 37, T 38, T 39, T 40, T 41, T 42, T 43, T 44, T 45, T 46, T 47, T 48, T 49, T 50, T 51, T 52, T 53, T 54, T 55, T 56, T 57, T 58, T 59, T 60, T 61, T 62, T 63, T 64, T 65, T 66, T 67, T 68, T 69, T 70, T 71, T 72, T 73, T 74, T 75, T 76, T 77, T 78, T 79, T 80, T 81, T 82, T 83, T 84, T 85, T 86, T 87, T 88, T 89, T 90, T 91, T 92, T 93, T 94, T 95, T 96, T 97, T 98, T 99, T 100, T 101, T 102, T 103, T 104, T 105, T 106, T 107, T 108, T 109, T 110, T 111, T 112, T 113, T 114, T 115, T 116, T 117, T 118, T 119, T 120, T 121, T 122, T 123, T 124, T 125, T 126, T 127, T 128, T 129, T 130, T 131, T 132, T 133, T 134, T 135, T 136, T 137, T 138, T 139, T 140, T 141, T 142, T 143, T 144, T 145, T 146, T 147, T 148, T 149, T 150, T 151, T 152, T 153, T 154, T 155, T 156, T 157, T 158, T 159, T 160, T 161, T 162, T 163, T 164, T 165, T 166, T 167, T 168, T 169, T 170, T 171, T 172, T 173, T 174, T 175, T 176, T 177, T 178, T 179, T 180, T 181, T 182, T 183, T 184, T 185, T 186, T 187, T 188, T 189, T 190, T 191, T 192, T 193, T 194, T 195], defers := ds }
def nth : List Value → Nat → Value
  | [], _ => undef
  | x :: _, 0 => x
  | _ :: t, k + 1 => nth t k
theorem bookF_of {c : Option Addr} {nz cap3 bq br bk bP : Nat} {v9 v10 v11 : Value} {ds : List Deferred} (l : List Value) (h : l = [nth l 0, Value.slice c nz cap3, nth l 2, nth l 3, Value.pointer (some { block := bq, off := 0 }), Value.pointer (some { block := bP, off := 0 }), Value.pointer (some { block := br, off := 0 }), nth l 7, Value.pointer (some { block := bk, off := 0 }), v9, v10, v11, nth l 12, nth l 13, nth l 14, nth l 15, nth l 16, nth l 17, nth l 18, nth l 19, nth l 20, nth l 21, nth l 22, nth l 23, nth l 24, nth l 25, nth l 26, nth l 27, nth l 28, nth l 29, nth l 30, nth l 31, nth l 32, nth l 33, nth l 34, nth l 35, nth l 36, nth l 37, nth l 38, nth l 39, nth l 40, nth l 41, nth l 42, nth l 43, nth l 44, nth l 45, nth l 46, nth l 47, nth l 48, nth l 49, nth l 50, nth l 51, nth l 52, nth l 53, nth l 54, nth l 55, nth l 56, nth l 57, nth l 58, nth l 59, nth l 60, nth l 61, nth l 62, nth l 63, nth l 64, nth l 65, nth l 66, nth l 67, nth l 68, nth l 69, nth l 70, nth l 71, nth l 72, nth l 73, nth l 74, nth l 75, nth l 76, nth l 77, nth l 78, nth l 79, nth l 80, nth l 81, nth l 82, nth l 83, nth l 84, nth l 85, nth l 86, nth l 87, nth l 88, nth l 89, nth l 90, nth l 91, nth l 92, nth l 93, nth l 94, nth l 95, nth l 96, nth l 97, nth l 98, nth l 99, nth l 100, nth l 101, nth l 102, nth l 103, nth l 104, nth l 105, nth l 106, nth l 107, nth l 108, nth l 109, nth l 110, nth l 111, nth l 112, nth l 113, nth l 114, nth l 115, nth l 116, nth l 117, nth l 118, nth l 119, nth l 120, nth l 121, nth l 122, nth l 123, nth l 124, nth l 125, nth l 126, nth l 127, nth l 128, nth l 129, nth l 130, nth l 131, nth l 132, nth l 133, nth l 134, nth l 135, nth l 136, nth l 137, nth l 138, nth l 139, nth l 140, nth l 141, nth l 142, nth l 143, nth l 144, nth l 145, nth l 146, nth l 147, nth l 148, nth l 149, nth l 150, nth l 151, nth l 152, nth l 153, nth l 154, nth l 155, nth l 156, nth l 157, nth l 158, nth l 159, nth l 160, nth l 161, nth l 162, nth l 163, nth l 164, nth l 165, nth l 166, nth l 167, nth l 168, nth l 169, nth l 170, nth l 171, nth l 172, nth l 173, nth l 174, nth l 175, nth l 176, nth l 177, nth l 178, nth l 179, nth l 180, nth l 181, nth l 182, nth l 183, nth l 184, nth l 185, nth l 186, nth l 187, nth l 188, nth l 189, nth l 190, nth l 191, nth l 192, nth l 193, nth l 194, nth l 195]) :
    BookF c nz cap3 bq br bk bP v9 v10 v11 ds { tmps := l.toArray, defers := ds } := ⟨nth l, by rw [← h]⟩
/-- RopeBook's frame ahead of a range. -/
def RngF (c : Option Addr) (nz cap3 bq br bk bP ba : Nat) (v9 v10 v11 v113 : Value) (ds : List Deferred) (a' : Act) : Prop :=
  ∃ T : Nat → Value, a' = { tmps := #[T 0, Value.slice c nz cap3, T 2, T 3, Value.pointer (some { block := bq, off := 0 }), Value.pointer (some { block := bP, off := 0 }), Value.pointer (some { block := br, off := 0 }), T 7, Value.pointer (some { block := bk, off := 0 }), v9, v10, v11, T 12, T 13, T 14, T 15, T 16, Value.pointer (some { block := ba, off := 0 }), T 18, T 19, T 20, T 21, T 22, T 23, T 24, T 25, T 26, T 27, T 28, T 29, T 30, T 31, T 32, T 33, T 34, T 35, T 36, T 37, T 38, T 39, T 40, T 41, T 42, T 43, T 44, T 45, T 46, T 47, T 48, T 49, T 50, T 51, T 52, T 53, T 54, T 55, T 56, T 57, T 58, T 59, T 60, T 61, T 62, T 63, T 64, T 65, T 66, T 67, T 68, T 69, T 70, T 71, T 72, T 73, T 74, T 75, T 76, T 77, T 78, T 79, T 80, T 81, T 82, T 83, T 84, T 85, T 86, T 87, T 88, T 89, T 90, T 91, T 92, T 93, T 94, T 95, T 96, T 97, T 98, T 99, T 100, T 101, T 102, T 103, T 104, T 105, T 106, T 107, T 108, T 109, T 110, T 111, T 112, v113, T 114, T 115, T 116, T 117, T 118, T 119, T 120, T 121, T 122, T 123, T 124, T 125, T 126, T 127, T 128, T 129, T 130, T 131, T 132, T 133, T 134, T 135, T 136, T 137, T 138, T 139, T 140, T 141, T 142, T 143, T 144, T 145, T 146, T 147, T 148, T 149, T 150, T 151, T 152, T 153, T 154, T 155, T 156, T 157, T 158, T 159, T 160, T 161, T 162, T 163, T 164, T 165, T 166, T 167, T 168, T 169, T 170, T 171, T 172, T 173, T 174, T 175, T 176, T 177, T 178, T 179, T 180, T 181, T 182, T 183, T 184, T 185, T 186, T 187, T 188, T 189, T 190, T 191, T 192, T 193, T 194, T 195], defers := ds }
theorem rngF_of {c : Option Addr} {nz cap3 bq br bk bP ba : Nat} {v9 v10 v11 v113 : Value} {ds : List Deferred} (l : List Value) (h : l = [nth l 0, Value.slice c nz cap3, nth l 2, nth l 3, Value.pointer (some { block := bq, off := 0 }), Value.pointer (some { block := bP, off := 0 }), Value.pointer (some { block := br, off := 0 }), nth l 7, Value.pointer (some { block := bk, off := 0 }), v9, v10, v11, nth l 12, nth l 13, nth l 14, nth l 15, nth l 16, Value.pointer (some { block := ba, off := 0 }), nth l 18, nth l 19, nth l 20, nth l 21, nth l 22, nth l 23, nth l 24, nth l 25, nth l 26, nth l 27, nth l 28, nth l 29, nth l 30, nth l 31, nth l 32, nth l 33, nth l 34, nth l 35, nth l 36, nth l 37, nth l 38, nth l 39, nth l 40, nth l 41, nth l 42, nth l 43, nth l 44, nth l 45, nth l 46, nth l 47, nth l 48, nth l 49, nth l 50, nth l 51, nth l 52, nth l 53, nth l 54, nth l 55, nth l 56, nth l 57, nth l 58, nth l 59, nth l 60, nth l 61, nth l 62, nth l 63, nth l 64, nth l 65, nth l 66, nth l 67, nth l 68, nth l 69, nth l 70, nth l 71, nth l 72, nth l 73, nth l 74, nth l 75, nth l 76, nth l 77, nth l 78, nth l 79, nth l 80, nth l 81, nth l 82, nth l 83, nth l 84, nth l 85, nth l 86, nth l 87, nth l 88, nth l 89, nth l 90, nth l 91, nth l 92, nth l 93, nth l 94, nth l 95, nth l 96, nth l 97, nth l 98, nth l 99, nth l 100, nth l 101, nth l 102, nth l 103, nth l 104, nth l 105, nth l 106, nth l 107, nth l 108, nth l 109, nth l 110, nth l 111, nth l 112, v113, nth l 114, nth l 115, nth l 116, nth l 117, nth l 118, nth l 119, nth l 120, nth l 121, nth l 122, nth l 123, nth l 124, nth l 125, nth l 126, nth l 127, nth l 128, nth l 129, nth l 130, nth l 131, nth l 132, nth l 133, nth l 134, nth l 135, nth l 136, nth l 137, nth l 138, nth l 139, nth l 140, nth l 141, nth l 142, nth l 143, nth l 144, nth l 145, nth l 146, nth l 147, nth l 148, nth l 149, nth l 150, nth l 151, nth l 152, nth l 153, nth l 154, nth l 155, nth l 156, nth l 157, nth l 158, nth l 159, nth l 160, nth l 161, nth l 162, nth l 163, nth l 164, nth l 165, nth l 166, nth l 167, nth l 168, nth l 169, nth l 170, nth l 171, nth l 172, nth l 173, nth l 174, nth l 175, nth l 176, nth l 177, nth l 178, nth l 179, nth l 180, nth l 181, nth l 182, nth l 183, nth l 184, nth l 185, nth l 186, nth l 187, nth l 188, nth l 189, nth l 190, nth l 191, nth l 192, nth l 193, nth l 194, nth l 195]) :
    RngF c nz cap3 bq br bk bP ba v9 v10 v11 v113 ds { tmps := l.toArray, defers := ds } := ⟨nth l, by rw [← h]⟩
theorem frame_to {c : Code} {Q : Exit → Act → World → Prop} {a : Act} {w : World} {R : Act → Prop} (h : R a) (k : ∀ a', R a' → c.wp Try.prog Q a' w) : c.wp Try.prog Q a w := k a h
theorem callsIn_round {l n : Nat} {P : Program} {f : FuncId} {args : Array Value} {w : World} {R : Ending → World → Prop} (h : Calls P f args w R) : CallsIn (Fence.wide.inRound l) n P f args w R :=
  (callsIn_wide.2 h : CallsIn Fence.wide n P f args w R)
/-- Between two rounds of the loop over places. -/
def OutI (c : Option Addr) (nz cap3 bq br bP L : Nat) (wb : World) (a' : Act) (w' : World) : Prop :=
  ∃ (i fr : Nat) (v11 : Value) (Ds : List Nat) (its : Its) (C : Nat → List Value) (aK : Option Addr) (cK : Nat), BookF c nz cap3 bq br (br + 1) bP (.int .i64 (fr : Int)) (.int .i64 (i : Int)) v11 (marks Ds) a' ∧ i ≤ nz ∧ i ≤ 40 ∧ fr ≤ L ∧ its.length ≤ i * 33554436 ∧ Hid (BookSt wb (br + 1) Ds its C aK cK w')
/-- Between two turns. -/
def InI (c : Option Addr) (nz cap3 bq br bP f i : Nat) (wb : World) (a' : Act) (w' : World) : Prop :=
  ∃ (t : Nat) (Ds : List Nat) (its : Its) (C : Nat → List Value) (aK : Option Addr) (cK : Nat), BookF c nz cap3 bq br (br + 1) bP (.int .i64 (f : Int)) (.int .i64 (i : Int)) (.int .i64 (t : Int)) (marks Ds) a' ∧ t ≤ 2 ∧ its.length ≤ i * 33554436 + t * 16777218 ∧ Hid (BookSt wb (br + 1) Ds its C aK cK w')
/-- How RopeBook's body ends: by a return. -/
def bookPost (R : Ending → World → Prop) : Exit → Act → World → Prop
  | .ret, a, w => LeavesInM Fence.wide 3 Try.prog Try.f3 a.tmps R a.defers .returning w
  | _, _, _ => False
theorem bookPost_le {R : Ending → World → Prop} : ∀ (e : Exit) (a : Act) (w : World), bookPost R e a w → bodyPostM Fence.wide 3 Try.prog Try.f3 R e a w
  | .ret, _, _, h => h
  | .normal, _, _, h => h.elim
  | .exit _, _, _, h => h.elim
  | .goto _, _, _, h => h.elim
  | .panic _, _, _, h => h.elim
  | .outgrown, _, _, h => h.elim
theorem book_end {tmps : Array Value} {bq : Nat} {Ds : List Nat} {W : World} {R : Ending → World → Prop} (h4 : tmps[4]?.getD undef = .pointer (some ⟨bq, 0, none⟩)) (hc : W.cell? ⟨bq, 0, none⟩ = some (.bool true)) (hnd : Ds.Nodup) (hm : ∀ D, D ∈ Ds → W.heap[D]? = some (.deferred (some []))) (hne : bq ∉ Ds)
    (hR : ∀ W' : World, W'.os = W.os → W'.tape = W.tape → W'.output = W.output → W'.heap.size = W.heap.size → (∀ k, k ∉ Ds → W'.heap[k]? = W.heap[k]?) → R (.returned (.bool true)) W') : LeavesInM Fence.wide 3 Try.prog Try.f3 tmps R (marks Ds) .returning W := by
  refine leaves_marks Ds W hnd hm (fun W' e1 e2 e3 e4 e5 => ⟨.bool true, ?_, hR W' e1 e2 e3 e4 e5⟩)
  have hc' : W'.cell? ⟨bq, 0, none⟩ = some (.bool true) := by rw [World.cell?_of_block (w := W) (a := ⟨bq, 0, none⟩) (e5 bq hne)]; exact hc
  simp [results, Try.results3, go_sem, h4, hc']
theorem low_sames {n0 : Nat} {w w' : World} (h : Below n0 w w') : Same (fun b => b < n0) w w' :=
  ⟨fun b o v hb hc => low_cell h hb hc, fun b v hb _ hp o => by rw [World.frozen?_of_block (w := w) (a := ⟨b, o, none⟩) (h.block b hb)]; exact hp o⟩
theorem book_start {w2 : World} {bR : Nat} {wb : World} (hwb : wb = (w2.alloc (.cells #[.pointer (some ⟨bR, 0, none⟩)] 26)).alloc (.cells #[.slice none 0 0] 29)) :
    BookSt wb (w2.heap.size + 1) [] [] (fun _ => []) none 0 wb ∧ Kept w2 wb ∧ wb.cell? ⟨w2.heap.size, 0, none⟩ = some (.pointer (some ⟨bR, 0, none⟩)) ∧ wb.heap.size = w2.heap.size + 2 := by
  obtain ⟨W, hW⟩ : ∃ W, w2.alloc (.cells #[.pointer (some ⟨bR, 0, none⟩)] 26) = W := ⟨_, rfl⟩
  rw [hW] at hwb
  have hs : W.heap.size = w2.heap.size + 1 := by rw [← hW]; simp
  have hk : Kept w2 W := hW ▸ (Kept.refl w2).alloc _ _
  have hk2 : Kept W wb := hwb ▸ (Kept.refl W).alloc _ _
  have hs2 : wb.heap.size = w2.heap.size + 2 := by rw [hwb]; simp [hs]
  refine ⟨⟨KeptBut.refl _ _, by omega, ?_, ?_, World.ownsRow_nil _ _ _ _, fun t b n c ht => by simp at ht, fun t t' b n c n' c' ht => by simp at ht, fun t b n c ht => by simp at ht, List.nodup_nil, fun D hD => by simp at hD⟩, gtrans hk hk2, grown_cell hk2 ?_, hs2⟩
  · rw [← hs, hwb]; exact box_cell rfl 0 _ rfl
  · rw [← hs, hwb]; exact World.frozen?_alloc_new W _ _ 0
  · rw [← hW]; exact box_cell rfl 0 _ rfl

set_option maxRecDepth 100000 in
set_option maxHeartbeats 2000000 in
theorem round_same (k : Int) (n : Nat) (hn : 0 < n) (hb : n ≤ 1000000000) :
    ∃ m : Nat, m < n ∧ ∀ w : World, Calls Try.prog 8 #[.int .i64 k, .int .i64 (n : Int)] w fun e w' => e = .returned (.int .i64 (m : Int)) ∧ w' = w := by
  have e1 := Int.tmod_lt_of_pos k (show (0 : Int) < n by omega)
  have e2 : -(n : Int) < Int.tmod k n := by
    rcases Int.le_total 0 k with h | h
    · have := Int.tmod_nonneg n h; omega
    · have h3 : Int.tmod (-k) n < n := Int.tmod_lt_of_pos (-k) (by omega)
      rw [Int.neg_tmod] at h3
      omega
  have hz : ((n : Int) == 0) = false := by simp; omega
  generalize hm : Int.tmod k n = m at e1 e2
  by_cases h0 : m < 0
  · refine ⟨(m + n).toNat, by omega, fun w => ?_⟩
    go_enter Try.func8, Try.ntmps8
    go_wp2
    go_ret
    exact ⟨ret_int (by omega), rfl⟩
  · refine ⟨m.toNat, by omega, fun w => ?_⟩
    go_enter Try.func8, Try.ntmps8
    go_wp2
    go_ret
    exact ⟨ret_int (by omega), rfl⟩

set_option maxRecDepth 100000 in
set_option maxHeartbeats 8000000 in
theorem book_law (a c : Option Addr) (n cap q cap3 : Nat) (zs : List Int) (w : World) (hs : Script w w.heap.size a n) (hn : n ≤ 140737488351232)
    (hz : IntsAt w w.heap.size (.slice c q cap3) zs) (hzb : ∀ x ∈ zs, -9223372036854775808 ≤ x ∧ x ≤ 9223372036854775807) (hq : zs.length ≤ 17592186044000) :
    Calls Try.prog 3 #[.slice a n cap, .slice c q cap3] w fun e w' => e = .returned (.bool true) ∧ Below w.heap.size w w' := by
  have HS := hide1 hs
  have HZ := hide1 hz
  have HZB := hide1 hzb
  have gz : (zs.length : Int) ≤ 17592186044000 := by omega
  obtain ⟨b', c', e⟩ := hz.form
  simp only [Value.slice.injEq] at e
  obtain ⟨rfl, rfl, rfl⟩ := e
  clear hs hz hzb hq
  refine (callsIn_wide (n := 3)).1 ?_
  refine callsIn_of_wp_marks Try.func3 rfl trivial ?_ rfl
  simp only [Try.ntmps3, List.size_toArray, List.length_cons, List.length_nil, Nat.reduceAdd, Nat.reduceSub, Array.replicate_succ, Array.replicate_zero, List.push_toArray, List.append_toArray, List.nil_append, List.cons_append]
  refine wpIn_wide.2 ?_
  refine Go.wp_mono ?_ bookPost_le
  go_wp2_with fail
  refine (head_any _).mono ?_
  rintro e w1 ⟨rfl, hk1'⟩
  have r1 : w1.cell? ⟨w.heap.size, 0, none⟩ = some (.bool false) := grown_cell hk1' (by simp)
  have hs1 : w.heap.size < w1.heap.size := World.block_lt_of_cell? w1 ⟨w.heap.size, 0, none⟩ r1
  have z1 : w1.frozen? ⟨w.heap.size, 0, none⟩ = false := by
    rw [hk1'.below.frozen (p := ⟨w.heap.size, 0, none⟩) (by simp)]; exact World.frozen?_alloc_new w _ _ 0
  have hk1 := hide1 (gtrans ((Kept.refl w).alloc _ _) hk1')
  clear hk1'
  go_wp2_with fail
  refine (built_kept _ n cap w _ hk1.out HS.out hn).mono ?_
  rintro e w2 ⟨bP, bR, xs, rfl, hk2', HP, HR⟩
  have r2 := grown_cell hk2'.out r1
  have z2 : w2.frozen? ⟨w.heap.size, 0, none⟩ = false := by rw [hk2'.out.below.frozen (p := ⟨w.heap.size, 0, none⟩) hs1]; exact z1
  have hs2 : w.heap.size < w2.heap.size := Nat.lt_of_lt_of_le hs1 hk2'.out.size
  have hk2 := hide1 (gtrans hk1.out hk2'.out)
  obtain ⟨aR, pR, cR, lR⟩ := HR.out.cell
  have hxl : (xs.length : Int) ≤ 16777216 := by have := HP.out.len; omega
  clear hk2' hk1 r1 z1 hs1
  go_wp2_with fail
  obtain ⟨wb, hwb⟩ : ∃ wb, wb = (w2.alloc (.cells #[.pointer (some ⟨bR, 0, none⟩)] 26)).alloc (.cells #[.slice none 0 0] 29) := ⟨_, rfl⟩
  obtain ⟨hB0, hk2b, crb, hszb⟩ := book_start hwb
  rw [← hwb]
  have HLOW : Hid (∀ {W : World}, KeptBut (w2.heap.size + 1) wb W → Below w2.heap.size w2 W) := fun {W} h => ⟨h.1.trans hk2b.1, h.2.1.trans hk2b.2.1, h.2.2.1.trans hk2b.2.2.1, Nat.le_trans hk2b.size h.2.2.2.1, fun k hk => by rw [h.2.2.2.2 k (by omega) (by omega)]; exact hk2b.2.2.2.2 k hk⟩
  have HROPE : Hid (∀ {W : World}, KeptBut (w2.heap.size + 1) wb W → RopeAt (fun b => b < w2.heap.size) W (.pointer (some ⟨bP, 0, none⟩)) xs) := fun h => (HP.out.tight.mono (Same.refl _ _) (fun b hb => hb.2)).mono (low_sames (HLOW.out h)) (fun _ h => h)
  have HLIST : Hid (∀ {W : World}, KeptBut (w2.heap.size + 1) wb W → ListAt (fun b => b < w2.heap.size) W (.slice aR xs.length pR) xs) := fun h => (lR.tight.mono (Same.refl _ _) (fun b hb => hb.2)).mono (low_sames (HLOW.out h)) (fun _ h => h)
  have hbR : bR < w2.heap.size := World.block_lt_of_cell? w2 ⟨bR, 0, none⟩ cR
  have HCR : Hid (∀ {W : World}, KeptBut (w2.heap.size + 1) wb W → W.cell? ⟨bR, 0, none⟩ = some (.slice aR xs.length pR)) := fun h => low_cell (HLOW.out h) hbR cR
  have HCB : Hid (∀ {W : World}, KeptBut (w2.heap.size + 1) wb W → W.cell? ⟨w2.heap.size, 0, none⟩ = some (.pointer (some ⟨bR, 0, none⟩))) := fun h => h.cell (by omega) crb
  have HRES : Hid (∀ {W : World}, KeptBut (w2.heap.size + 1) wb W → W.cell? ⟨w.heap.size, 0, none⟩ = some (.bool false) ∧ W.frozen? ⟨w.heap.size, 0, none⟩ = false) := fun h => ⟨low_cell (HLOW.out h) hs2 r2, by rw [World.frozen?_of_block (w := w2) (a := ⟨w.heap.size, 0, none⟩) ((HLOW.out h).block _ hs2)]; exact z2⟩
  have HB0 := hide1 hB0
  clear hB0 crb cR lR r2 z2 HP HR hwb hk2b
  refine wp_loop (OutI c zs.length cap3 w.heap.size w2.heap.size bP xs.length wb) (fun a' _ => 40 - (intOf (a'.tmps.getD 10 undef)).toNat) ?_ ?_
  · refine ⟨0, 0, undef, [], [], fun _ => [], none, 0, ?_, by omega, by omega, by omega, by simp, HB0⟩
    exact bookF_of _ (by kernel_rfl)
  · rintro a' wr ⟨i, fr, v11, Ds, its, C, aK, cK, hF, hi1, hi2, hfr, hits, HB⟩
    obtain ⟨T, rfl⟩ := hF
    clear HB0
    by_cases hlt : (i : Int) < (zs.length : Int) ∧ (i : Int) < 40
    · obtain ⟨z, hz⟩ : ∃ z, zs[i]? = some z := ⟨_, List.getElem?_eq_getElem (by omega)⟩
      obtain ⟨cz, oz, rfl, hczn, hcz⟩ : ∃ cz oz, c = some ⟨cz, oz, none⟩ ∧ cz < w.heap.size ∧ w.cell? ⟨cz, oz + i, none⟩ = some (.int .i64 z) := by
        rcases HZ.out with ⟨h0, _⟩ | ⟨cz, oz, cap', e, hn', hc⟩
        · rw [h0] at hz; simp at hz
        · simp only [Value.slice.injEq] at e
          exact ⟨cz, oz, e.1, hn', hc i z hz⟩
      have hzb := HZB.out z (List.mem_of_getElem? hz)
      have cz0 : wr.cell? ⟨cz, oz + i, none⟩ = some (.int .i64 z) := low_cell (hk2.out.below.trans ((HLOW.out HB.out.1).mono hk2.out.size)) hczn hcz
      have cb0 := HCB.out HB.out.1
      have cr0 := HCR.out HB.out.1
      obtain ⟨hl1, hl2⟩ := hlt
      obtain ⟨f, hf5, hrnd⟩ := round_same z (xs.length + 1) (by omega) (by omega)
      have HRND : ∀ W : World, Calls Try.prog 8 #[.int .i64 z, .int .i64 ((xs.length : Int) + 1)] W fun e w' => e = .returned (.int .i64 (f : Int)) ∧ w' = W := hrnd
      clear hrnd
      go_wp2_with fail
      go_quiet ((go_at_call 8; exact Calls.quiet_of_same (HRND _)))
      all_goals
        have hfl : f ≤ xs.length := by omega
        clear HRND cz0 cb0 cr0 hf5 hfr hcz hzb
        go_wp2_with fail
        have HB5 := hide1 (HB.out.kept (grown_drewN wr nq))
        generalize wr.drewN nq = w5 at HB5 ⊢
        clear HB
        refine wp_loop (InI (some ⟨cz, oz, none⟩) zs.length cap3 w.heap.size w2.heap.size bP f i wb) (fun a' _ => 2 - (intOf (a'.tmps.getD 11 undef)).toNat) ?_ ?_
        · exact ⟨0, Ds, its, C, aK, cK, bookF_of _ (by kernel_rfl), by decide, Nat.le_trans hits (Nat.le_add_right _ _), HB5⟩
        · clear HB5 hits
          rintro a' wr ⟨t, Ds, its, C, aK, cK, ⟨T, rfl⟩, ht2, hits, HB⟩
          by_cases hlt2 : (t : Int) < 2
          · have HBYT := hide1 ((HROPE.out HB.out.1).byt)
            have HSP := hide1 (show span xs (f : Int) (xs.length : Int) = xs.drop f from by unfold span; rw [Int.toNat_natCast, Int.toNat_natCast, List.take_length])
            have HSPL := hide1 (show (span xs (f : Int) (xs.length : Int)).length = xs.length - f from by rw [HSP.out]; simp)
            have HBYD : Hid (Byt (span xs (f : Int) (xs.length : Int))) := by rw [HSP.out]; exact fun y hy => HBYT.out y (List.mem_of_mem_drop hy)
            go_wp2_with fail
            refine (Bytes_any _ _ xs _ (HROPE.out HB.out.1)).mono ?_
            rintro e w5 ⟨g1, p1, rfl, hk5, hg1, ho1⟩
            have HB5 := hide1 (HB.out.kept hk5)
            have HU := hide1 HB.out.under
            have hwr := HB.out.1.size
            have hg1l : g1 < w5.heap.size := by obtain ⟨G, r, _⟩ := own_bag ho1 (by omega) rfl; exact r.lt
            have HO1 := hide1 ho1
            have cb5 := HCB.out HB5.out.1
            have cr5 := HCR.out HB5.out.1
            go_wp2_with fail
            refine (Part_in _ _ xs f xs.length _ (HROPE.out HB5.out.1) hfl (Nat.le_refl _)).mono ?_
            rintro e w6 ⟨g2, p2, rfl, hk6, hg2, ho2⟩
            have HB6 := hide1 (HB5.out.kept hk6)
            have HO1 := hide1 (HO1.out.kept hk6)
            have HO2 := hide1 ho2
            have hs6 : wr.heap.size ≤ w6.heap.size := Nat.le_trans hk5.size hk6.size
            clear HB HB5 cb5 cr5 hk5 ho1 ho2
            go_wp2_with fail
            refine (Chunks_in _ _ xs f _ (HROPE.out HB6.out.1) hfl).mono ?_
            rintro e w7 ⟨rfl, hk7, b1, b2⟩
            have HB7 := hide1 (HB6.out.kept hk7)
            have HO1 := hide1 (HO1.out.kept hk7)
            have HO2 := hide1 (HO2.out.kept hk7)
            have cb7 := HCB.out HB7.out.1
            have cr7 := HCR.out HB7.out.1
            have kfn := fun (ups : Array Value) (W : World) => func_nil 28 ups W
            go_wp2_with fail
            refine (same_true _ _ _ _ xs _ (HO1.out.list HBYT.out) (HLIST.out HB7.out.1) (by omega)).mono ?_
            rintro e w8 ⟨rfl, hk8⟩
            have HB8 := hide1 (HB7.out.kept hk8)
            have HO1 := hide1 (HO1.out.kept hk8)
            have HO2 := hide1 (HO2.out.kept hk8)
            have b1 := grown_cell hk8 b1
            have b2 := grown_cell hk8 b2
            have cb8 := HCB.out HB8.out.1
            have cr8 := HCR.out HB8.out.1
            obtain ⟨sb, sc, hsl, hll⟩ := slice_rest (HLIST.out HB8.out.1) f hfl
            have HLL := hide1 hll
            clear hll HB7 HB6 cb7 cr7
            go_wp2_with fail
            refine (same_true _ _ _ _ (xs.drop f) _ (by have := HO2.out.list HBYD.out; rw [HSP.out] at this; exact this) HLL.out (by simp; omega)).mono ?_
            rintro e w9 ⟨rfl, hk9⟩
            have HB9 := hide1 (HB8.out.kept hk9)
            have HO1 := hide1 (HO1.out.kept hk9)
            have HO2 := hide1 (HO2.out.kept hk9)
            have b1 := grown_cell hk9 b1
            have b2 := grown_cell hk9 b2
            have ck9 := HB9.out.2.2.1
            have cz9 := HB9.out.2.2.2.1
            clear HB8 HLL hsl cb8 cr8
            have hN9 : its.length ≤ 1400000000 := by have : i < 40 := by omega
                                                     have : t < 2 := by omega
                                                     omega
            have hwb9 := HB9.out.1.size
            go_wp2_with (at_builtin; go_must (refine wpl_add_two rfl _ _ rfl w9 _ ((Kept.refl w9).alloc _ _) wb.heap.size (.slice aK its.length cK) its.length (itsV its) (by rfl) HB9.out.2.2.2.2.1 (some ⟨g1, 0, none⟩) (some ⟨g2, 0, none⟩) xs.length p1 (xs.length - f) p2 w9.heap.size (by rfl) (box_cell rfl 0 _ rfl) (box_cell rfl 1 _ rfl) (by omega) hwb9 ?_; intro gK pK w10 ho10 hg10 hgg10 hlt10; obtain ⟨ck10, cz10⟩ := HB9.out.slot ((Kept.refl w9).alloc _ _) hg10; have HT10 := hide1 (HB9.out.two (N := its.length + 2) ((Kept.refl w9).alloc _ _) HU.out hwr hg1 (Nat.lt_of_lt_of_le hg1l hg2) HO1.out HO2.out rfl HSPL.out (by omega) (by omega) rfl ho10 hg10 hgg10); have b1' := HB9.out.other (u := .slice (some ⟨gK, 0, none⟩) (its.length + 2) pK) ((Kept.refl w9).alloc _ _) hg10 (by omega) (fun g hg => by have := HU.out.2 g hg; omega) b1; have b2' := HB9.out.other (u := .slice (some ⟨gK, 0, none⟩) (its.length + 2) pK) ((Kept.refl w9).alloc _ _) hg10 (by omega) (fun g hg => by have := HU.out.2 g hg; omega) b2; have hs10 : (w10.setCell ⟨w2.heap.size + 1, 0, none⟩ (.slice (some ⟨gK, 0, none⟩) (its.length + 2) pK)).heap.size = w10.heap.size := (by simp [World.setCell]); clear ho10 hg10 hgg10))
            clear HB9 HO1 HO2 HU ck9 cz9 ck10 cz10 b1 b2
            obtain ⟨C10, hB10⟩ := HT10.out
            obtain ⟨wS, hwS⟩ : ∃ wS, wS = w10.setCell ⟨w2.heap.size + 1, 0, none⟩ (.slice (some ⟨gK, 0, none⟩) (its.length + 2) pK) := ⟨_, rfl⟩
            rw [← hwS] at hB10 b1' b2' hs10 ⊢
            rw [← hs10]
            obtain ⟨w4, hw4⟩ : ∃ w4, w4 = wS.alloc (.cells #[.int .i64 (f : Int)] 3) := ⟨_, rfl⟩
            rw [← hw4]
            obtain ⟨hI0, hDlt, hba, hba1, hk4⟩ := rng_start (T0 := fun b => b < w2.heap.size ∧ b < w4.heap.size) hB10 rfl hw4 (fun b hb => by omega)
            have b1 := grown_cell hk4 b1'
            have b2 := grown_cell hk4 b2'
            have hB4 := hB10.kept hk4
            have hwb4 := hB4.1.size
            have HI0 := hide1 hI0
            have HDLT := hide1 hDlt
            have hseq := chunksT_seq (fun b => b < w2.heap.size) (3 - 1) w6.heap.size (w6.heap.size + 1) f _ xs w4 (HROPE.out hB4.1) b1 b2 hfl
            have HSEQ := hide1 hseq
            have hlen10 : (its ++ [(g1, xs.length, p1), (g2, xs.length - f, p2)]).length = its.length + 2 := by simp
            clear hI0 hDlt b1 b2 b1' b2' hB4 hB10 HT10 hw4 hwS hseq hk4 hs10 hlt10 hk9 hk8 hk7 hk6
            refine frame_to (rngF_of (c := (some ⟨cz, oz, none⟩)) (nz := zs.length) (cap3 := cap3) (bq := w.heap.size) (br := w2.heap.size) (bk := w2.heap.size + 1) (bP := bP) (ba := wS.heap.size) (v9 := .int .i64 (f : Int)) (v10 := .int .i64 (i : Int)) (v11 := .int .i64 (t : Int)) (v113 := .func (.func 28) #[] #[.pointer (some ⟨w6.heap.size, 0, none⟩), .pointer (some ⟨w6.heap.size + 1, 0, none⟩)]) _ (by kernel_rfl)) ?_
            rintro a' ⟨T, rfl⟩
            refine (wpIn_wide (n := 3)).1 ?_
            refine range_T Item.blk rfl (by omega) (gf := 28) (lb := #[.pointer (some ⟨w6.heap.size, 0, none⟩), .pointer (some ⟨w6.heap.size + 1, 0, none⟩)]) rfl trivial (enters_of Try.func28 (by kernel_rfl) rfl)
              HSEQ.out (fun b hb => hb.2) (fun pre x W l o o' hl ho hh => hh.put o' hl ho) (Below.refl _ _) (fun _ => rfl)
              (RngI wb (w2.heap.size + 1) wS.heap.size w4.heap.size f (its ++ [(g1, xs.length, p1), (g2, xs.length - f, p2)]).length Ds) (fun _ _ _ => False) (rngI_stable hwb4 hba HDLT.out) (fun _ _ _ _ _ _ h _ => h) HI0.out
              (fun x => { tmps := #[T 0, .slice (some ⟨cz, oz, none⟩) zs.length cap3, T 2, T 3, .pointer (some ⟨w.heap.size, 0, none⟩), .pointer (some ⟨bP, 0, none⟩), .pointer (some ⟨w2.heap.size, 0, none⟩), T 7, .pointer (some ⟨w2.heap.size + 1, 0, none⟩), .int .i64 (f : Int), .int .i64 (i : Int), .int .i64 (t : Int), T 12, T 13, T 14, T 15, T 16, .pointer (some ⟨wS.heap.size, 0, none⟩), T 18, .slice (some ⟨x.blk, 0, none⟩) x.bytes.length x.cap, T 20, T 21, T 22, T 23, T 24, T 25, T 26, T 27, T 28, T 29, T 30, T 31, T 32, T 33, T 34, T 35, T 36, T 37, T 38, T 39, T 40, T 41, T 42, T 43, T 44, T 45, T 46, T 47, T 48, T 49, T 50, T 51, T 52, T 53, T 54, T 55, T 56, T 57, T 58, T 59, T 60, T 61, T 62, T 63, T 64, T 65, T 66, T 67, T 68, T 69, T 70, T 71, T 72, T 73, T 74, T 75, T 76, T 77, T 78, T 79, T 80, T 81, T 82, T 83, T 84, T 85, T 86, T 87, T 88, T 89, T 90, T 91, T 92, T 93, T 94, T 95, T 96, T 97, T 98, T 99, T 100, T 101, T 102, T 103, T 104, T 105, T 106, T 107, T 108, T 109, T 110, T 111, T 112, .func (.func 28) #[] #[.pointer (some ⟨w6.heap.size, 0, none⟩), .pointer (some ⟨w6.heap.size + 1, 0, none⟩)], .int .i64 (x.place : Int), .slice (some ⟨x.blk, 0, none⟩) x.bytes.length x.cap, T 116, T 117, T 118, T 119, T 120, T 121, T 122, T 123, T 124, T 125, T 126, T 127, T 128, T 129, T 130, T 131, T 132, T 133, T 134, T 135, T 136, T 137, T 138, T 139, T 140, T 141, T 142, T 143, T 144, T 145, T 146, T 147, T 148, T 149, T 150, T 151, T 152, T 153, T 154, T 155, T 156, T 157, T 158, T 159, T 160, T 161, T 162, T 163, T 164, T 165, T 166, T 167, T 168, T 169, T 170, T 171, T 172, T 173, T 174, T 175, T 176, T 177, T 178, T 179, T 180, T 181, T 182, T 183, T 184, T 185, T 186, T 187, T 188, T 189, T 190, T 191, T 192, T 193, T 194, T 195], defers := [] }) ?assign ?body ?done ?stop
            case assign =>
              intro l x W K hK
              simp only [Item.encs]
              gi_wp2
              exact hK
            case body =>
              rintro T2 pre x W ⟨its2, C2, aK2, cK2, hB, hl2, hp2, ca, za, h6, h7⟩ ⟨hx1, hx2, ⟨rest, hx3⟩, hx4, hx5⟩ hTx hT1 hT2 hblk hTl _
              obtain ⟨place, bytes, blk, bcap⟩ := x
              simp only at hx1 hx2 hx3 hx4 hx5 hTx hblk ⊢
              have hm : 0 < bytes.length := List.length_pos_iff.2 hx2
              have hlenx : (got pre).length + bytes.length + rest.length = xs.length - f := by have := congrArg List.length hx3; simp at this; omega
              obtain ⟨m, hm1⟩ : ∃ m, m = f + (got pre).length := ⟨_, rfl⟩
              rw [← hm1] at ca
              have gm : (m : Int) + (bytes.length : Int) ≤ (xs.length : Int) := by omega
              have gb : (0 : Int) < (bytes.length : Int) := by omega
              have ed : decide ((xs.length : Int) - (m : Int) < (bytes.length : Int)) = false := decide_eq_false (by omega)
              have cb := HCB.out hB.1
              have cr := HCR.out hB.1
              have ck := hB.2.2.1
              have zk := hB.2.2.2.1
              obtain ⟨sb2, sc2, hsl2, hll2⟩ := slice_list (HLIST.out hB.1) m (m + bytes.length) (by omega) (by omega)
              rw [piece_is hm1 hx3, Nat.add_sub_cancel_left] at hll2
              have hsl3 : ∀ w', (Instr.sliceAt 31 (.slice aR xs.length pR) (some (.int .i64 (m : Int))) (some (.int .i64 ((m : Int) + (bytes.length : Int)))) none).run Try.prog w' = .ok (.slice sb2 bytes.length sc2) w' := fun w' => by have := hsl2 w'; rw [Nat.add_sub_cancel_left] at this; exact this
              have HBYX : Hid (Byt bytes) := fun y hy => HBYT.out y (List.mem_of_mem_drop (show y ∈ xs.drop f by rw [hx3]; simp [hy]))
              have HLC := hide1 (hx4.list HBYX.out)
              have HLL := hide1 hll2
              have HB := hide1 hB
              have HOW := hide1 hx4
              have H6 := hide1 h6
              have H7 := hide1 h7
              have HT2 := hide1 hT2
              have HTL := hide1 hTl
              have hml : bytes.length ≤ 1000000000 := by omega
              have HM1 := hide1 hm1
              have HL2 := hide1 hl2
              clear hl2
              clear hsl2 hll2 hB hx4 h6 h7 hT2 hTl hT1 hx3 hm1
              gi_wp2_with fail
              refine region_quiet_round (by kernel_rfl) (by kernel_rfl) (by kernel_rfl) ?_
              repeat (gi_big_quiet_step ((gi_at_call 12; exact callsIn_wide.2 (sameq_at _ _ _ _ bytes _ _ HLC.out HLL.out hml))))
              refine wpQuietIn_nil ?_
              intro _ hw'
              obtain ⟨nq, hw''⟩ := hw'
              subst hw''
              have ca' : (W.drewN nq).cell? ⟨wS.heap.size, 0, none⟩ = some (.int .i64 (m : Int)) := ca
              have za' : (W.drewN nq).frozen? ⟨wS.heap.size, 0, none⟩ = false := za
              have HBW := hide1 (HB.out.kept (grown_drewN W nq))
              have HB1 := hide1 (rng_at (.int .i64 ((m : Int) + (bytes.length : Int))) HBW.out hba1 ca' (fun t b n c h => (H6.out t b n c h).1) (fun g h => (H7.out g h).1))
              have hN2 : its2.length ≤ 1400000000 := by have := HL2.out; omega
              have ck1 := HB1.out.2.2.1
              have zk1 := HB1.out.2.2.2.1
              have hwW : wb.heap.size ≤ W.heap.size := HB.out.1.size
              have HKL : Hid (Kept ((W.drewN nq).setCell ⟨wS.heap.size, 0, none⟩ (.int .i64 ((m : Int) + (bytes.length : Int)))) (((W.drewN nq).setCell ⟨wS.heap.size, 0, none⟩ (.int .i64 ((m : Int) + (bytes.length : Int)))).alloc (.cells #[.slice (some ⟨blk, 0, none⟩) bytes.length bcap] 31))) := (Kept.refl _).alloc _ _
              have hlit : (((W.drewN nq).setCell ⟨wS.heap.size, 0, none⟩ (.int .i64 ((m : Int) + (bytes.length : Int)))).alloc (.cells #[.slice (some ⟨blk, 0, none⟩) bytes.length bcap] 31)).cell? ⟨W.heap.size, 0, none⟩ = some (.slice (some ⟨blk, 0, none⟩) bytes.length bcap) := lit_two (W.drewN nq) _ _ _ _
              have HLIT := hide1 hlit
              have HOWN := hide1 (HB1.out.kept HKL.out).2.2.2.2.1
              have HBW2 := hide1 (HB1.out.kept HKL.out).1.size
              clear ca za ck zk HB cb cr ed hlit
              gi_wp2_with (gi_at_builtin; go_must (refine wpl_add_sliceIn rfl _ _ rfl _ wb.heap.size (.slice aK2 its2.length cK2) its2.length (itsV its2) (by rfl) HOWN.out (some ⟨blk, 0, none⟩) bytes.length bcap W.heap.size (by rfl) HLIT.out (by omega) HBW2.out ?_; intro g7 c7 w7 ho7 hg7 hgg7; obtain ⟨ck7, zk7⟩ := HB1.out.slot HKL.out hg7))
              obtain ⟨⟨k1, k2⟩, k3, k4⟩ := rngI_next (W := W.drewN nq) (T := T2) (m := w4.heap.size) (place := place) hba1 hba HBW.out HL2.out hp2 (by rw [← HM1.out]; exact ca') za' H6.out H7.out hTx (fun b hb => by rcases HT2.out b hb with h | h <;> omega) hblk HTL.out (HOW.out.kept (grown_drewN W nq)) hm hml _ (by rw [← HM1.out]; rfl) HKL.out rfl ho7 hg7 hgg7
              exact ⟨⟨k1, k2⟩, k3, k4⟩
            case done =>
              rintro D T3 ys W hD hS ⟨its2, C2, aK2, cK2, hB, hl2, hp2, ca, za, h6, h7⟩ hdef
              have hys : ys.length ≤ xs.length := by rw [hS] at hp2; simp at hp2; omega
              have HBD := hide1 (hB.mark (D := D) (by omega) hdef (fun D' hD' => by have := HDLT.out D' hD'; omega))
              have hb2 : its2.length ≤ i * 33554436 + (t + 1) * 16777218 := by rw [hlen10] at hl2; omega
              clear hB hl2 hp2 ca za h6 h7 hdef hS HI0
              go_wp2_with fail
              exact ⟨⟨t + 1, D :: Ds, its2, C2, aK2, cK2, bookF_of _ (by kernel_rfl), by omega, hb2, HBD⟩, by simp [intOf]; omega⟩
            case stop =>
              rintro D c pre W _ _ h
              exact h.elim
          · go_wp2_with fail
            have hb2 : its.length ≤ (i + 1) * 33554436 := by omega
            exact ⟨⟨i + 1, f, .int .i64 (t : Int), Ds, its, C, aK, cK, bookF_of _ (by kernel_rfl), by omega, by omega, hfl, hb2, HB⟩, by simp [intOf]; omega⟩
    · have cb0 := HCB.out HB.out.1
      have cr0 := HCR.out HB.out.1
      have hstop : ¬ ((i : Int) < (zs.length : Int)) ∨ ¬ ((i : Int) < 40) := by omega
      clear hlt
      have HBYT := hide1 ((HROPE.out HB.out.1).byt)
      have HSP := hide1 (show span xs (fr : Int) (xs.length : Int) = xs.drop fr from by unfold span; rw [Int.toNat_natCast, Int.toNat_natCast, List.take_length])
      have HSPL := hide1 (show (span xs (fr : Int) (xs.length : Int)).length = xs.length - fr from by rw [HSP.out]; simp)
      have HBYD : Hid (Byt (span xs (fr : Int) (xs.length : Int))) := by rw [HSP.out]; exact fun y hy => HBYT.out y (List.mem_of_mem_drop hy)
      have hN0 : its.length ≤ 1400000000 := by omega
      rcases hstop with hs1 | hs1 <;> go_wp2_with fail
      all_goals
        refine (Part_in _ _ xs fr xs.length _ (HROPE.out HB.out.1) hfr (Nat.le_refl _)).mono ?_
        rintro e w5 ⟨g2, p2, rfl, hk5, hg2, ho2⟩
        have HB5 := hide1 (HB.out.kept hk5)
        have HO2 := hide1 ho2
        go_wp2_with fail
        refine (Bytes_any _ _ xs _ (HROPE.out HB5.out.1)).mono ?_
        rintro e w6 ⟨g1, p1, rfl, hk6, hg1, ho1⟩
        have HB6 := hide1 (HB5.out.kept hk6)
        have HO2 := hide1 (HO2.out.kept hk6)
        have HO1 := hide1 ho1
        have hs5 := hk5.size
        have ck6 := HB6.out.2.2.1
        have HU := hide1 HB.out.under
        have HND := hide1 HB.out.2.2.2.2.2.2.2.2.1
        have HDB : Hid (∀ D, D ∈ Ds → wb.heap.size ≤ D) := fun D hD => (HB.out.2.2.2.2.2.2.2.2.2 D hD).1
        clear HB HB5 hk5 hk6 ho1 ho2 cb0 cr0
        go_wp2_with fail
        refine (grown_any HB6.out hN0).mono ?_
        rintro e w7 ⟨rfl, hg7⟩
        obtain ⟨HK7, HM7, HG7⟩ := hg7
        have HO1 := hide1 (HG7.out HO1.out (fun t b n c h => by have := HU.out.1 t b n c h; omega))
        have HO2 := hide1 (HG7.out HO2.out (fun t b n c h => by have := HU.out.1 t b n c h; omega))
        have cb7 := HCB.out HK7.out
        have cr7 := HCR.out HK7.out
        clear HB6 HG7 ck6
        go_wp2_with fail
        refine (same_true _ _ _ _ xs _ (HO1.out.list HBYT.out) (HLIST.out HK7.out) (by omega)).mono ?_
        rintro e w8 ⟨rfl, hk8⟩
        have HK8 := hide1 (HK7.out.trans (.of hk8))
        have HO2 := hide1 (HO2.out.kept hk8)
        have HM8 : Hid (∀ D, D ∈ Ds → w8.heap[D]? = some (.deferred (some []))) := fun D hD => by rw [hk8.2.2.2.2 D (Array.getElem?_eq_some_iff.1 (HM7.out D hD)).1]; exact HM7.out D hD
        have cb8 := HCB.out HK8.out
        have cr8 := HCR.out HK8.out
        obtain ⟨sb, sc, hsl, hll⟩ := slice_rest (HLIST.out HK8.out) fr hfr
        have HLL := hide1 hll
        clear hll HK7 HM7 cb7 cr7 HO1
        go_wp2_with fail
        refine (same_true _ _ _ _ (xs.drop fr) _ (by have := HO2.out.list HBYD.out; rw [HSP.out] at this; exact this) HLL.out (by simp; omega)).mono ?_
        rintro e w9 ⟨rfl, hk9⟩
        have HK9 := hide1 (HK8.out.trans (.of hk9))
        have HM9 : Hid (∀ D, D ∈ Ds → w9.heap[D]? = some (.deferred (some []))) := fun D hD => by rw [hk9.2.2.2.2 D (Array.getElem?_eq_some_iff.1 (HM8.out D hD)).1]; exact HM8.out D hD
        have cb9 := HCB.out HK9.out
        have cr9 := HCR.out HK9.out
        obtain ⟨res9, zres9⟩ := HRES.out HK9.out
        clear HLL hsl HK8 HM8 cb8 cr8 HO2 hk8 hk9
        have hkr : Kept w9 w9 := Kept.refl w9
        have q1 := keeps cb9
        have q2 := keeps cr9
        have q3 := keeps res9
        have q4 : ∀ W, Kept w9 W → W.frozen? ⟨w.heap.size, 0, none⟩ = false := fun W hk => by rw [hk.below.frozen (p := ⟨w.heap.size, 0, none⟩) (World.block_lt_of_cell? w9 ⟨w.heap.size, 0, none⟩ res9)]; exact zres9
        go_wp2_with fail
        go_region_with (first
          | (go_at_call 9; refine (Bytes_any _ _ xs _ (HROPE.out (HK9.out.trans (.of (drew_kept _))))).mono ?_; rintro e wB ⟨gB, pB, rfl, hkB, hgB, hoB⟩; have hkB' : Kept w9 wB := gtrans (drew_kept w9) hkB; have cbB := q1 wB hkB'; have crB := q2 wB hkB')
          | (go_at_call 12; refine (same_true _ _ _ _ xs _ (hoB.list HBYT.out) (HLIST.out (HK9.out.trans (.of hkB'))) (by omega)).mono ?_; rintro e wS ⟨rfl, hkS⟩; have hkS' : Kept w9 wS := gtrans hkB' hkS; have rS := q3 wS hkS'; have zS := q4 wS hkS'))
        all_goals
          have HKS := hide1 (HK9.out.trans (.of hkS'))
          have HMS : Hid (∀ D, D ∈ Ds → wS.heap[D]? = some (.deferred (some []))) := fun D hD => by rw [hkS'.2.2.2.2 D (Array.getElem?_eq_some_iff.1 (HM9.out D hD)).1]; exact HM9.out D hD
          clear q1 q2 q3 q4
          go_wp2_with fail
          have hlow := HLOW.out HKS.out
          have hqs : w.heap.size < wS.heap.size := World.block_lt_of_cell? wS ⟨w.heap.size, 0, none⟩ rS
          refine book_end rfl (set_same _ rS) HND.out (fun D hD => ?_) (fun h => ?_) (fun W' e1 e2 e3 e4 e5 => ⟨rfl, ?_⟩)
          · have := HDB.out D hD
            rw [Below.heap_setCell _ _ _ _ (show D ≠ w.heap.size by omega)]
            exact HMS.out D hD
          · have := HDB.out _ h; omega
          · have hk := hk2.out
            refine ⟨(e1.trans hlow.os).trans hk.1, (e2.trans hlow.tape).trans hk.2.1, (e3.trans hlow.output).trans hk.2.2.1, ?_, fun k hk1 => ?_⟩
            · rw [e4]; simp [World.setCell]; omega
            · rw [e5 k (fun h => by have := HDB.out _ h; omega), Below.heap_setCell _ _ _ _ (show k ≠ w.heap.size by omega), hlow.block k (by omega), hk.2.2.2.2 k hk1]

end Rope
end Go.Proofs.Ythjagnnbhpfpoab
