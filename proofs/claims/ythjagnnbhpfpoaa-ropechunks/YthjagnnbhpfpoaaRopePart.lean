import Derived.Test.YthjagnnbhpfpoaaRopeSeq
import Derived.Deep.DeepAppendRoom
import Derived.Shelf.RegionOpen
import Derived.BigRegionIn
namespace Go.Proofs.Ythjagnnbhpfpoaa
open Go.RowKit
attribute [local go_sem] Oper.semAt_some
namespace Rope

theorem make_bytes (w : World) (n : Nat) (hn : n ≤ 1000000000) : ∃ w', (Instr.makeSlice 22 (.int .i64 0) (.int .i64 n)).run Try.prog w = .ok (.slice (some ⟨w.heap.size, 0, none⟩) 0 n) w' ∧ Own w' w.heap.size (.slice (some ⟨w.heap.size, 0, none⟩) 0 n) [] ∧ Kept w w' := by
  obtain ⟨i0, hi, hz0, hz1, hz2⟩ := info_parts u8_info
  obtain ⟨w', h1, h2, h3⟩ := run_make_own (P := Try.prog) w w.heap.size 22 5 i0 (.int .u8 0) 1 Try.underlying22 hi hz0 hz1 .i64 .i64 n (by rw [hz2]; omega) (by unfold maxLen; omega) (Nat.le_refl _)
  exact ⟨w', h1, h2, (Kept.refl w).grown h3 (fun k e => by cases e)⟩

set_option maxRecDepth 100000 in
set_option maxHeartbeats 4000000 in
theorem Part_out (S : Nat → Prop) (rv : Option Addr) (xs : List Int) (f t : Int) (w : World) (h : RopeAt S w (.pointer rv) xs) (hno : ¬ (0 ≤ f ∧ f ≤ t ∧ t ≤ xs.length)) :
    Calls Try.prog 47 #[.pointer rv, .int .i64 f, .int .i64 t] w fun e w' => e = .returned (.tuple #[.slice none 0 0, .int .i64 3]) ∧ Kept w w' := by
  have HE := hide1 h
  clear h
  go_enter Try.func47, Try.ntmps47
  go_wp2_with fail
  refine (spans_no S _ xs f t _ (HE.out.kept ((Kept.refl w).alloc _ _)) hno).mono ?_
  rintro e w1 ⟨rfl, hk1⟩
  go_wp2
  go_ret2
  exact ⟨rfl, gtrans ((Kept.refl w).alloc _ _) hk1⟩

theorem out_again {A P : Prop} (h : A ∧ True ∧ P) : A ∧ (Code.exit 0 = Code.exit 0 ∧ P) := ⟨h.1, rfl, h.2.2⟩

/-- Between two rounds of Part: what has come stands in the list. -/
def PartI (w w1 w2 : World) (f t : Nat) (pre : List Item) (W : World) : Prop :=
  Kept w W ∧ W.cell? ⟨w.heap.size, 0, none⟩ = some (.int .i64 t) ∧ W.cell? ⟨w2.heap.size, 0, none⟩ = some (.slice (some ⟨w1.heap.size, 0, none⟩) (got pre).length (t - f)) ∧ W.frozen? ⟨w2.heap.size, 0, none⟩ = false ∧
    Own W w1.heap.size (.slice (some ⟨w1.heap.size, 0, none⟩) (got pre).length (t - f)) (got pre) ∧ f + (got pre).length ≤ t
/-- When Part has all. -/
def PartX (w w1 w2 : World) (f t : Nat) (xs : List Int) (W : World) : Prop :=
  Kept w W ∧ W.cell? ⟨w2.heap.size, 0, none⟩ = some (.slice (some ⟨w1.heap.size, 0, none⟩) (t - f) (t - f)) ∧ Own W w1.heap.size (.slice (some ⟨w1.heap.size, 0, none⟩) (t - f) (t - f)) (span xs f t)

theorem Own.low_below {B g n cap base : Nat} {A A' : World} {bs : List Int} (h : Own A base (.slice (some ⟨g, 0, none⟩) n cap) bs) (hb : Below B A A') (hg : g < B) : Own A' base (.slice (some ⟨g, 0, none⟩) n cap) bs := by
  obtain ⟨h1, h2⟩ := h
  refine ⟨h1, ?_⟩
  rcases h2 with h2 | ⟨g', cap', cur, h3, h4, h5, h6⟩
  · exact .inl h2
  · refine .inr ⟨g', cap', cur, h3, h4, ?_, h6⟩
    simp only [Value.slice.injEq, Option.some.injEq, Addr.mk.injEq] at h3
    rw [hb.block g' (by omega)]; exact h5

theorem partI_low {w w1 w2 : World} {f t B : Nat} (h0 : w.heap.size < B) (h1 : w1.heap.size < B) (h2 : w2.heap.size < B) : Low B (PartI w w1 w2 f t) := by
  rintro pre A A' ⟨g1, g2, g3, g4, g5, g6⟩ hb
  exact ⟨Kept.of (g1.below.trans (hb.mono (by omega))), (hb.cell (p := ⟨w.heap.size, 0, none⟩) h0).trans g2, (hb.cell (p := ⟨w2.heap.size, 0, none⟩) h2).trans g3, (hb.frozen (p := ⟨w2.heap.size, 0, none⟩) h2).trans g4, g5.low_below hb h1, g6⟩
theorem partX_low {w w1 w2 : World} {f t B : Nat} {xs : List Int} (c : Code) (h0 : w.heap.size < B) (h1 : w1.heap.size < B) (h2 : w2.heap.size < B) : Low B (fun (_ : List Item) W => c = .exit 0 ∧ PartX w w1 w2 f t xs W) := by
  rintro pre A A' ⟨rfl, g1, g3, g5⟩ hb
  exact ⟨rfl, Kept.of (g1.below.trans (hb.mono (by omega))), (hb.cell (p := ⟨w2.heap.size, 0, none⟩) h2).trans g3, g5.low_below hb h1⟩

theorem load_bytes (w : World) (c o : Nat) (bs : List Int) (h : ∀ j x, bs[j]? = some x → w.cell? ⟨c, o + j, none⟩ = some (.int .u8 x)) :
    (loadCellsFrom ⟨c, o, none⟩ 0 bs.length #[]).run Try.prog w = .ok (bytesV bs).toArray w := by
  have := run_loadCells_list (P := Try.prog) w ⟨c, o, none⟩ (bytesV bs) (SliceAt.news h)
  rw [bytesV_len] at this
  simpa [loadCells] using this

theorem store_room (w : World) (base g k cap : Nat) (bs ys : List Int) (hown : Own w base (.slice (some ⟨g, 0, none⟩) k cap) bs) (hk : k = bs.length) (hroom : bs.length + ys.length ≤ cap) :
    ∃ w', (storeCells ⟨g, k, none⟩ (bytesV ys)).run Try.prog w = .ok () w' ∧ Own w' base (.slice (some ⟨g, 0, none⟩) (bs.length + ys.length) cap) (bs ++ ys) ∧ w.grownBy w' (some g) := by
  subst hk
  rcases hown.2 with ⟨h0, _⟩ | ⟨g', cap', cur, hv, hbg, hg, hnc, hcm, hcs, htake⟩
  · cases h0
  · simp only [Value.slice.injEq, Option.some.injEq, Addr.mk.injEq] at hv
    obtain ⟨⟨rfl, _, _⟩, _, rfl⟩ := hv
    have hlen : (bs ++ ys).length = bs.length + ys.length := List.length_append
    have hst := run_storeCells_at (P := Try.prog) g bs.length 5 (bytesV ys) 0 cur w hg (by rw [bytesV_len, hcs]; omega) (bytesV_one ys)
    simp only [Nat.add_zero] at hst
    refine ⟨_, hst, ⟨?_, .inr ⟨g, cap, _, by rw [hlen], hbg, setRow_heap w g cur _ 5 _ hg, by rw [hlen]; omega, hcm, ?_, ?_⟩⟩, ⟨rfl, rfl, rfl, by simp, fun k _ hk => setRow_other w g k _ (fun e => hk (by simp [e]))⟩⟩
    · rw [bytesV_len]; omega
    · simp only [List.size_toArray, List.length_append, List.length_take, List.length_drop, Array.length_toList, bytesV_len]
      omega
    · have e2 : bytesV (bs ++ ys) = bytesV bs ++ bytesV ys := List.map_append
      rw [Nat.mul_one] at htake
      rw [htake, e2, Nat.mul_one, hlen]
      have : bs.length + ys.length = (bytesV bs ++ bytesV ys).length := by simp [bytesV_len]
      rw [this]
      exact List.take_left

/-- A write of the list's row, and of its variable. -/
theorem part_set {w1 w2 W W5 : World} {B : Nat} (v : Value) (h1 : w1.heap.size < B) (h2 : w2.heap.size < B) (hg : W.grownBy W5 (some w1.heap.size)) :
    KeepsFrom B W (W5.setCell ⟨w2.heap.size, 0, none⟩ v) ∧ Keeps (fun b => b = w2.heap.size ∨ b = w1.heap.size) W (W5.setCell ⟨w2.heap.size, 0, none⟩ v) ∧
      ∀ k, k < W.heap.size → k ≠ w1.heap.size → k ≠ w2.heap.size → (W5.setCell ⟨w2.heap.size, 0, none⟩ v).heap[k]? = W.heap[k]? := by
  have hblock : ∀ k, k < W.heap.size → k ≠ w1.heap.size → k ≠ w2.heap.size → (W5.setCell ⟨w2.heap.size, 0, none⟩ v).heap[k]? = W.heap[k]? := fun k hk n1 n2 => by
    rw [Below.heap_setCell _ _ _ _ n2]; exact hg.block k hk (fun e => n1 (by injection e))
  have hsz : W.heap.size ≤ (W5.setCell ⟨w2.heap.size, 0, none⟩ v).heap.size := by have := hg.size; simp [World.setCell]; exact this
  refine ⟨⟨hsz, fun k o hB hk _ => ?_⟩, ⟨hsz, fun k o hk _ hx => ?_⟩, hblock⟩
  · rw [hblock k (Array.getElem?_eq_some_iff.1 hk).1 (by omega) (by omega)]; exact hk
  · rw [hblock k (Array.getElem?_eq_some_iff.1 hk).1 (fun e => hx (Or.inr e)) (fun e => hx (Or.inl e))]; exact hk

theorem part_core {w w1 w2 W W5 : World} {B f t n : Nat} {bs : List Int} {pre : List Item} (h0 : w.heap.size < w1.heap.size) (h1 : w1.heap.size < w2.heap.size) (h2 : w2.heap.size < B) (hi : PartI w w1 w2 f t pre W)
    (hg : W.grownBy W5 (some w1.heap.size)) (how : Own W5 w1.heap.size (.slice (some ⟨w1.heap.size, 0, none⟩) n (t - f)) bs) (W' : World) (hW : W' = W5.setCell ⟨w2.heap.size, 0, none⟩ (.slice (some ⟨w1.heap.size, 0, none⟩) n (t - f))) :
    KeepsFrom B W W' ∧ Keeps (fun b => b = w2.heap.size ∨ b = w1.heap.size) W W' ∧ Kept w W' ∧ W'.cell? ⟨w.heap.size, 0, none⟩ = some (.int .i64 t) ∧
      W'.cell? ⟨w2.heap.size, 0, none⟩ = some (.slice (some ⟨w1.heap.size, 0, none⟩) n (t - f)) ∧ W'.frozen? ⟨w2.heap.size, 0, none⟩ = false ∧ Own W' w1.heap.size (.slice (some ⟨w1.heap.size, 0, none⟩) n (t - f)) bs := by
  subst hW
  obtain ⟨g1, g2, g3, g4, _, _⟩ := hi
  obtain ⟨p1, p2, p3⟩ := part_set (B := B) (.slice (some ⟨w1.heap.size, 0, none⟩) n (t - f)) (by omega) h2 hg
  have hlt : w2.heap.size < W.heap.size := World.block_lt_of_cell? W ⟨w2.heap.size, 0, none⟩ g3
  have b5 := hg.block w2.heap.size hlt (fun e => by injection e with e; omega)
  have c5 : W5.cell? ⟨w2.heap.size, 0, none⟩ = W.cell? ⟨w2.heap.size, 0, none⟩ := World.cell?_of_block (w := W) (a := ⟨w2.heap.size, 0, none⟩) b5
  have z5 : W5.frozen? ⟨w2.heap.size, 0, none⟩ = W.frozen? ⟨w2.heap.size, 0, none⟩ := World.frozen?_of_block (w := W) (a := ⟨w2.heap.size, 0, none⟩) b5
  have hs1 := g1.size
  refine ⟨p1, p2, ⟨hg.os.trans g1.1, hg.tape.trans g1.2.1, hg.output.trans g1.2.2.1, Nat.le_trans hs1 p1.size, fun k hk => ?_⟩, ?_, ?_, ?_, ?_⟩
  · rw [p3 k (by omega) (by omega) (by omega)]; exact g1.2.2.2.2 k hk
  · rw [World.cell?_of_block (w := W) (a := ⟨w.heap.size, 0, none⟩) (p3 w.heap.size (by omega) (by omega) (by omega))]; exact g2
  · exact set_same _ (c5.trans g3)
  · rw [World.frozen?_setCell, z5]; exact g4
  · obtain ⟨k1, k2⟩ := how
    refine ⟨k1, ?_⟩
    rcases k2 with k2 | ⟨g', cap', cur, k3, k4, k5, k6⟩
    · exact .inl k2
    · refine .inr ⟨g', cap', cur, k3, k4, ?_, k6⟩
      simp only [Value.slice.injEq, Option.some.injEq, Addr.mk.injEq] at k3
      rw [Below.heap_setCell _ _ _ _ (by show g' ≠ w2.heap.size; omega)]; exact k5

theorem part_next {w w1 w2 W W5 : World} {B f t n : Nat} {pre : List Item} {x : Item} (h0 : w.heap.size < w1.heap.size) (h1 : w1.heap.size < w2.heap.size) (h2 : w2.heap.size < B) (hi : PartI w w1 w2 f t pre W)
    (hg : W.grownBy W5 (some w1.heap.size)) (how : Own W5 w1.heap.size (.slice (some ⟨w1.heap.size, 0, none⟩) n (t - f)) (got pre ++ x.bytes)) (hn : n = (got (pre ++ [x])).length) (hle : f + n ≤ t) (W' : World) (hW : W' = W5.setCell ⟨w2.heap.size, 0, none⟩ (.slice (some ⟨w1.heap.size, 0, none⟩) n (t - f))) :
    KeepsFrom B W W' ∧ Keeps (fun b => b = w2.heap.size ∨ b = w1.heap.size) W W' ∧ PartI w w1 w2 f t (pre ++ [x]) W' := by
  obtain ⟨q1, q2, q3, q4, q5, q6, q7⟩ := part_core (B := B) h0 h1 h2 hi hg how W' hW
  rw [← got_snoc] at q7
  subst hn
  exact ⟨q1, q2, q3, q4, q5, q6, q7, hle⟩

theorem part_last {w w1 w2 W W5 : World} {B f t : Nat} {pre : List Item} {xs bs : List Int} (h0 : w.heap.size < w1.heap.size) (h1 : w1.heap.size < w2.heap.size) (h2 : w2.heap.size < B) (hi : PartI w w1 w2 f t pre W)
    (hg : W.grownBy W5 (some w1.heap.size)) (n : Nat) (hn : n = t - f) (how : Own W5 w1.heap.size (.slice (some ⟨w1.heap.size, 0, none⟩) n (t - f)) bs) (hb : bs = span xs f t) (W' : World) (hW : W' = W5.setCell ⟨w2.heap.size, 0, none⟩ (.slice (some ⟨w1.heap.size, 0, none⟩) n (t - f))) :
    KeepsFrom B W W' ∧ (Code.exit 0 = .exit 0 ∧ PartX w w1 w2 f t xs W') := by
  subst hn hb
  obtain ⟨q1, q2, q3, q4, q5, q6, q7⟩ := part_core (B := B) h0 h1 h2 hi hg how W' hW
  exact ⟨q1, rfl, q3, q5, q7⟩

set_option maxRecDepth 100000 in
set_option maxHeartbeats 4000000 in
theorem Part_in (S : Nat → Prop) (rv : Option Addr) (xs : List Int) (f t : Nat) (w : World) (h : RopeAt S w (.pointer rv) xs) (h1 : f ≤ t) (h2 : t ≤ xs.length) :
    Calls Try.prog 47 #[.pointer rv, .int .i64 f, .int .i64 t] w fun e w' => ∃ g cap, e = .returned (.tuple #[.slice (some ⟨g, 0, none⟩) (t - f) cap, .int .i64 0]) ∧ Kept w w' ∧ w.heap.size ≤ g ∧ Own w' w.heap.size (.slice (some ⟨g, 0, none⟩) (t - f) cap) (span xs f t) := by
  have hl := h.len
  have HE := hide1 h
  clear h
  have g1 : (f : Int) ≤ (t : Int) := by omega
  have g2 : (t : Int) ≤ 16777216 := by omega
  refine (callsIn_wide (n := 3)).1 ?_
  refine callsIn_of_wp_marks Try.func47 rfl trivial ?_ rfl
  simp only [Try.ntmps47, List.size_toArray, List.length_cons, List.length_nil, Nat.reduceAdd, Nat.reduceSub, Array.replicate_succ, Array.replicate_zero, List.push_toArray, List.append_toArray, List.nil_append, List.cons_append]
  gi_wp2_with fail
  refine ⟨trivial, ?_⟩
  have hk0 : Kept w (w.alloc (.cells #[.int .i64 (t : Int)] 3)) := (Kept.refl w).alloc _ _
  refine (callsIn_wide.2 (spans_yes S _ xs f t _ (HE.out.kept hk0) (by omega) (by omega) (by omega))).mono ?_
  rintro e w1 ⟨rfl, hk1⟩
  have t1 : w1.cell? ⟨w.heap.size, 0, none⟩ = some (.int .i64 t) := grown_cell hk1 (by simp)
  have hsz : w.heap.size < w1.heap.size := by have := hk1.size; simp at this; omega
  replace hk1 := gtrans hk0 hk1
  clear hk0
  obtain ⟨w2, hmk, how2, hk2⟩ := make_bytes w1 (t - f) (by omega)
  have e1 : (t : Int) - (f : Int) = ((t - f : Nat) : Int) := by omega
  have HE1 := hide1 e1
  have hmk' : (Instr.makeSlice 22 (.int .i64 0) (.int .i64 ((t : Int) - (f : Int)))).run Try.prog w1 = .ok (.slice (some ⟨w1.heap.size, 0, none⟩) 0 (t - f)) w2 := by rw [e1]; exact hmk
  clear hmk e1
  gi_wp2_with fail
  have hkA : Kept w2 (w2.alloc (.cells #[.slice (some ⟨w1.heap.size, 0, none⟩) 0 (t - f)] 22)) := (Kept.refl w2).alloc _ _
  refine ⟨trivial, ?_⟩
  refine (callsIn_wide.2 (Chunks_in S rv xs f _ (HE.out.kept (gtrans (gtrans hk1 hk2) hkA)) (by omega))).mono ?_
  rintro e w4 ⟨rfl, hk4, b1, b2⟩
  have hs1 := hk1.size
  have hs2 := hk2.size
  have hlR : w1.heap.size < w2.heap.size := by
    rcases how2.2 with ⟨hc, _⟩ | ⟨g, cap, cur, hv, _, hg, _⟩
    · cases hc
    · simp only [Value.slice.injEq, Option.some.injEq, Addr.mk.injEq] at hv
      have := (Array.getElem?_eq_some_iff.1 hg).1
      omega
  have hs4 : w2.heap.size + 1 ≤ w4.heap.size := by have := hk4.size; simp at this; omega
  have t4 : w4.cell? ⟨w.heap.size, 0, none⟩ = some (.int .i64 t) := grown_cell hk4 (grown_cell hkA (grown_cell hk2 t1))
  have o4 : w4.cell? ⟨w2.heap.size, 0, none⟩ = some (.slice (some ⟨w1.heap.size, 0, none⟩) 0 (t - f)) := grown_cell hk4 (by simp)
  have z4 : w4.frozen? ⟨w2.heap.size, 0, none⟩ = false := by
    rw [hk4.below.frozen (p := ⟨w2.heap.size, 0, none⟩) (by simp)]; exact World.frozen?_alloc_new w2 _ _ 0
  have how4 : Own w4 w1.heap.size (.slice (some ⟨w1.heap.size, 0, none⟩) 0 (t - f)) [] := (how2.kept hkA).kept hk4
  have hkw4 : Kept w w4 := gtrans (gtrans (gtrans hk1 hk2) hkA) hk4
  simp only [World.size_alloc] at b1 b2
  have HO4 := hide1 how4
  have HK4 := hide1 hkw4
  clear how4 hkw4 how2 hk4 hkA hk2 t1 hmk' hk1
  have hrope : RopeAt (fun b => S b ∧ b < w.heap.size) w4 (.pointer rv) xs := HE.out.tight.kept HK4.out
  have hX : ∀ b, (b = w2.heap.size ∨ b = w1.heap.size) → b < w4.heap.size ∧ ¬ (S b ∧ b < w.heap.size) := by
    rintro b (rfl | rfl) <;> exact ⟨by omega, fun h => by omega⟩
  have hseq := chunks1_seq (fun b => b = w2.heap.size ∨ b = w1.heap.size) _ (3 - 1) (w2.heap.size + 1) (w2.heap.size + 1 + 1) f rv xs w4 hrope b1 b2 (by omega) hX
  have hI0 : PartI w w1 w2 f t [] w4 := ⟨HK4.out, t4, o4, z4, HO4.out, by show f + 0 ≤ t; omega⟩
  clear hX hrope
  gi_wp2_with fail
  refine range_low rfl (by omega) (gf := 49) (lb := #[.pointer (some ⟨w2.heap.size + 1, 0, none⟩), .pointer (some ⟨w2.heap.size + 1 + 1, 0, none⟩)]) rfl trivial (enters_of Try.func49 (by kernel_rfl) rfl)
    hseq (fun h k => h.trans k) (fun W l o o' _ hl ho => Keeps.put o' hl ho) (fun pre x W l o o' _ hl ho hh => hh.put o' hl ho) (Below.refl _ _) (fun _ => rfl)
    (PartI w w1 w2 f t) (fun c pre W => c = .exit 0 ∧ PartX w w1 w2 f t xs W) (partI_low (by omega) (by omega) (by omega)) (fun c => partX_low c (by omega) (by omega) (by omega)) hI0
    (fun x => { tmps := #[.pointer rv, .int .i64 f, .int .i64 t, undef, undef, .pointer (some ⟨w.heap.size, 0, none⟩), .slice none 0 0, .int .i64 0, .pointer (some ⟨w2.heap.size, 0, none⟩), .func (.func 49) #[] #[.pointer (some ⟨w2.heap.size + 1, 0, none⟩), .pointer (some ⟨w2.heap.size + 1 + 1, 0, none⟩)], .int .i64 0, .int .i64 x.place, .slice (some ⟨x.blk, 0, none⟩) x.bytes.length x.cap, .pointer rv, .int .i64 f, .int .i64 t, .bool true, .bool false, .int .i64 t, .int .i64 f, .int .i64 ((t : Int) - (f : Int)), .slice (some ⟨w1.heap.size, 0, none⟩) 0 (t - f), .tuple #[.func (.func 49) #[] #[.pointer (some ⟨w2.heap.size + 1, 0, none⟩), .pointer (some ⟨w2.heap.size + 1 + 1, 0, none⟩)], .int .i64 0], .pointer rv, .int .i64 f, .tuple #[.func (.func 49) #[] #[.pointer (some ⟨w2.heap.size + 1, 0, none⟩), .pointer (some ⟨w2.heap.size + 1 + 1, 0, none⟩)], .int .i64 0], .func (.func 49) #[] #[.pointer (some ⟨w2.heap.size + 1, 0, none⟩), .pointer (some ⟨w2.heap.size + 1 + 1, 0, none⟩)], .int .i64 0, .func (.func 49) #[] #[.pointer (some ⟨w2.heap.size + 1, 0, none⟩), .pointer (some ⟨w2.heap.size + 1 + 1, 0, none⟩)], .int .i64 x.place, .slice (some ⟨x.blk, 0, none⟩) x.bytes.length x.cap, undef, undef, undef, undef, undef, undef, undef, undef, undef, undef, undef, undef, undef, undef, undef, undef, undef], defers := [] }) ?assign ?body ?done ?stop
  case assign =>
    intro l x W K hK
    simp only [Item.encs]
    gi_wp2
    exact hK
  case body =>
    rintro l pre x W hi ⟨hx1, hx2, ⟨rest, hx3⟩, hx4, hx5⟩ hlt
    have hi' := hi
    obtain ⟨hk, ht, ho, hz, how, hle⟩ := hi'
    obtain ⟨place, bytes, blk, cap⟩ := x
    simp only at hx1 hx2 hx3 hx4 hx5 ⊢
    have hm : 0 < bytes.length := List.length_pos_iff.2 hx2
    have hlenx : (got pre).length + bytes.length + rest.length = xs.length - f := by have := congrArg List.length hx3; simp at this; omega
    have hbx : Byt bytes := fun y hy => HE.out.byt y (List.mem_of_mem_drop (by rw [hx3]; simp [hy]))
    have HI := hide1 hi
    have HW := hide1 how
    have HX1 := hide1 hx1
    have HX3 := hide1 hx3
    have HX4 := hide1 hx4
    have hpl : (place : Int) = (f : Int) + ((got pre).length : Int) := by omega
    have hpb : place ≤ t := by omega
    clear hi how hx1 hx3 hx4 hk hseq hI0 HO4 HK4 HE t4 o4 z4 b1 b2 HE1 hx2
    have HPL := hide1 hpl
    clear hpl
    obtain ⟨_, _, _, hcells, _⟩ := (HX4.out.slice (List.ne_nil_of_length_pos hm) hbx).parts
    have hcap : bytes.length ≤ cap := by
      rcases HX4.out.2 with ⟨hc, _⟩ | ⟨g', cap', cur, hv, _, _, hle', _⟩
      · cases hc
      · simp only [Value.slice.injEq] at hv
        omega
    by_cases hc : (t : Int) ≤ (place : Int) + (bytes.length : Int)
    · obtain ⟨q, hq⟩ : ∃ q : Nat, (t : Int) - (place : Int) = (q : Int) := ⟨t - place, by omega⟩
      have hql : q ≤ bytes.length := by omega
      have e1 : (bytes.take q).length = q := by simp; omega
      have e2 : (got pre).length + q = t - f := by have := HPL.out; omega
      have hld := load_bytes W.drew blk 0 (bytes.take q) (fun j x hx => by
        rw [List.getElem?_take] at hx
        split at hx
        · exact hcells j x hx
        · cases hx)
      rw [e1] at hld
      obtain ⟨W5, hst, how5, hgr5⟩ := store_room W.drew w1.heap.size w1.heap.size (got pre).length (t - f) (got pre) (bytes.take q) HW.out rfl (by rw [e1]; omega)
      rw [e1] at how5
      have hspan : got pre ++ bytes.take q = span xs f t := by
        have h3 := HX3.out
        unfold span
        rw [Int.toNat_natCast, Int.toNat_natCast, List.drop_take, h3, ← e2, List.append_assoc, List.take_length_add_append, List.take_append_of_le_length hql]
      have hgr : W.grownBy W5 (some w1.heap.size) := ⟨hgr5.os, hgr5.tape, hgr5.output, hgr5.size, hgr5.block⟩
      have HL := part_last (B := w4.heap.size) (by omega) (by omega) (by omega) HI.out (W5 := W5) hgr ((got pre).length + q) e2 how5 hspan _ rfl
      have HL' := hide1 HL
      have hroom : (got pre).length + q ≤ t - f := by omega
      have o5 : W5.cell? ⟨w2.heap.size, 0, none⟩ = some (.slice (some ⟨w1.heap.size, 0, none⟩) (got pre).length (t - f)) := hgr5.cell ho (fun e => by simp at e; omega)
      have z5 : W5.frozen? ⟨w2.heap.size, 0, none⟩ = false := by
        rw [World.frozen?_of_block (w := W.drew) (a := ⟨w2.heap.size, 0, none⟩) (hgr5.block _ (World.block_lt_of_cell? W ⟨w2.heap.size, 0, none⟩ ho) (fun e => by simp at e; omega))]; exact hz
      have gq : (q : Int) ≤ (cap : Int) := by omega
      have gw : IntKind.i64.wrap (q : Int) = (q : Int) := wrap_small _ (by omega) (by omega)
      have mixed : Try.prog.follows Departure.mixedOrders = true := by kernel_rfl
      have HE2 := hide1 e2
      clear HL how5 hgr5 hgr hspan e1 e2 hcells
      gi_wp2
      gi_region
      all_goals
        gi_wp2
        exact out_again HL'.out
    · have hld := load_bytes W blk 0 bytes hcells
      have hroom : (got pre).length + bytes.length ≤ t - f := by have := HPL.out; omega
      obtain ⟨W5, hst, how5, hgr5⟩ := store_room W w1.heap.size w1.heap.size (got pre).length (t - f) (got pre) bytes HW.out rfl hroom
      have HN := part_next (B := w4.heap.size) (x := ⟨place, bytes, blk, cap⟩) (by omega) (by omega) (by omega) HI.out hgr5 how5 (by rw [got_snoc, List.length_append]) (by have := HPL.out; omega) _ rfl
      have HN' := hide1 HN
      have o5 : W5.cell? ⟨w2.heap.size, 0, none⟩ = some (.slice (some ⟨w1.heap.size, 0, none⟩) (got pre).length (t - f)) := hgr5.cell ho (fun e => by simp at e; omega)
      have z5 : W5.frozen? ⟨w2.heap.size, 0, none⟩ = false := by
        rw [World.frozen?_of_block (w := W) (a := ⟨w2.heap.size, 0, none⟩) (hgr5.block _ (World.block_lt_of_cell? W ⟨w2.heap.size, 0, none⟩ ho) (fun e => by simp at e; omega))]; exact hz
      clear HN how5 hgr5 hcells
      gi_wp2
      exact HN'.out
  case done =>
    rintro D ys W hD hS ⟨hk, ht, ho, hz, how, hle⟩ hdef
    have hlen : (got ys).length = t - f := by rw [hS]; simp; rw [hS] at hle; simp at hle; omega
    have hsp : span xs f t = got ys := by
      rw [hS]; unfold span
      rw [show ((t : Int).toNat) = xs.length from by rw [hS] at hle; simp at hle; omega, List.take_of_length_le (Nat.le_refl _)]; simp
    rw [hlen] at ho how
    rw [← hsp] at how
    have HW := hide1 how
    clear hS hlen hsp how hz ht hseq hI0
    gi_wp2
    refine ⟨by simp, .inl ⟨_, _, rfl, run_takeDeferred hdef, ?_⟩⟩
    exact ⟨_, results_tmp2 rfl _ _ _, w1.heap.size, t - f, rfl, Kept.of (hk.below.trans (below_putObj _ (by omega))), by omega, (HW.out.low_below (below_putObj (B := D) _ (Nat.le_refl _)) (by omega)).low (by omega)⟩
  case stop =>
    rintro D c pre W hD _ ⟨rfl, hk, ho, how⟩ hdef
    have HW := hide1 how
    clear how hseq hI0
    gi_wp2
    refine ⟨by simp, .inl ⟨_, _, rfl, run_takeDeferred hdef, ?_⟩⟩
    exact ⟨_, results_tmp2 rfl _ _ _, w1.heap.size, t - f, rfl, Kept.of (hk.below.trans (below_putObj _ (by omega))), by omega, (HW.out.low_below (below_putObj (B := D) _ (Nat.le_refl _)) (by omega)).low (by omega)⟩

end Rope
end Go.Proofs.Ythjagnnbhpfpoaa
