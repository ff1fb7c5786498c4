import Derived.Test.YtnffjobobegieaaDoorMExCl5
import Derived.Test.YtnffjobobegieaaDoorMExRdC
namespace Go.Proofs.YtnffjobobegieaaDoor
open Go.RowKit
attribute [local go_sem] Oper.semAt_some
namespace Ex

theorem patA_is (T : ByteArray) (hT : T.size ≤ 4096) : ∀ N, PatC T N (patA T N)
  | 0 => fun k e f b w h h0 h1 hN => absurd hN (by omega)
  | N + 1 => patO_is T (N + 1) (rowS (itemA (patA T N) T) T) (fun k e f b w h h0 h1 hN => rowA_is T N (patA T N) (patA_is T hT N) (patA_ok N) k e f b w h h0 h1 hN hT) (fun s h hN => rowG_ok (N := N + 1) (fun s h hlt hN => itemA_ok (patA_ok N) h hlt hN) 4097 [] s h hN) hT

def wholeA (T : ByteArray) (s : Int × Int × Int) : Pat × Int × Int × Int := if (patA T 4098 s).2.1 < T.size then ((patA T 4098 s).1, wrongS T (patA T 4098 s).2) else patA T 4098 s
set_option linter.unusedSimpArgs false in
set_option maxRecDepth 100000 in
set_option maxHeartbeats 4000000 in
theorem wholeA_is (T : ByteArray) (k e f : Int) (b : Nat) (w : World) (h : RAt w b T k e f) (h0 : 0 ≤ k) (h1 : k ≤ T.size) (hT : T.size ≤ 4096) :
    Calls Tryd.prog 13 #[.pointer (some ⟨b, 0, none⟩)] w fun r w' => PGives (fun d => w.heap.size ≤ d) (wholeA T (k, e, f)).1 r w' ∧ RGave b w T (wholeA T (k, e, f)).2 w' := by
  have HR := hide1 h
  have hb := h.lt
  have gT : (T.size : Int) ≤ 4096 := by omega
  have oka := patA_ok (T := T) 4098 (k, e, f) ⟨h0, h1⟩ (by show (T.size : Int) < k + ((4098 : Nat) : Int); omega)
  have HE0 : wholeA T (k, e, f) = if (patA T 4098 (k, e, f)).2.1 < T.size then ((patA T 4098 (k, e, f)).1, wrongS T (patA T 4098 (k, e, f)).2) else patA T 4098 (k, e, f) := rfl
  obtain ⟨⟨q, k1, e1, f1⟩, hq⟩ : ∃ x, patA T 4098 (k, e, f) = x := ⟨_, rfl⟩
  rw [hq] at oka HE0
  have HQ := hide1 hq
  obtain ⟨ok1, hlt1⟩ := oka
  unfold OkS at ok1
  dsimp only at ok1 hlt1 HE0
  clear h hq
  go_enter Tryd.func13, Tryd.ntmps13
  by_cases hlt : k1 < T.size
  · rw [if_pos hlt] at HE0
    have HE := hide1 HE0
    clear HE0
    go_wp2_with (first
      | go_quiet (fail)
      | (go_at_call 23; refine (patA_is T hT 4098 k e f b _ (HR.out.keep ((Kept.refl _).alloc _ _)) h0 h1 (by omega)).mono ?_; rintro r w7 ⟨⟨v7, rfl, u7, rfl, hkk⟩, hg⟩; rw [HQ.out] at hg hkk ⊢; rw [valOf_eq]; obtain ⟨a7, c7, e7⟩ := hkk.form; subst e7; obtain ⟨hok7, hk7, hw7⟩ := hg; have HK := hide1 (but_allocd hk7); have HW := hide1 hw7; have HBZ := hide1 (BoxAt.but (BoxAt.new w _ _ _ _ _ _) hk7 (by omega)); have HKI := hide1 (KidsAt.mono (S' := fun d => w.heap.size < d) (fun _ _ _ _ h => h) (fun d h => by have h2 := h; simp at h2; omega) _ _ _ hkk); obtain ⟨c0, c1, c2, c3, c4⟩ := HW.out.cells; obtain ⟨⟨p0, p1, p2, p3, p4, p5⟩, x0, x1, x2, x3, x4, x5⟩ := HBZ.out.facts; have hb7 := HW.out.lt; have hz7 := HBZ.out.lt; clear hkk hk7 hw7 hok7)
      | (go_at_call 24; refine (wrong_is T _ _ _ b _ ((HW.out.keep ((Kept.refl _).alloc _ _)).drew _) hT).mono ?_; rintro r w10 ⟨rfl, hq10, hw10⟩; have hk10 := but_allocd (but_undrew hq10); have HBE := hide1 (BoxAt.but (BoxAt.new w7 _ _ _ _ _ _) (but_undrew hq10) (by omega)); have HKI := hide1 (KidsAt.mono (hk10.holds (S := fun d => w.heap.size < d) (by omega)) (fun _ h => h) _ _ _ HKI.out); have HK := hide1 (HK.out.trans hk10); have HW := hide1 hw10; have HBZ := hide1 (HBZ.out.but hk10 (by omega)); obtain ⟨⟨q0, q1, q2, q3, q4, q5⟩, _⟩ := HBE.out.facts; obtain ⟨⟨p0, p1, p2, p3, p4, p5⟩, x0, x1, x2, x3, x4, x5⟩ := HBZ.out.facts; clear hk10 hq10 hw10))
    (try simp only [Exit.inBlock, Exit.then])
    refine bodyPost_ret (box_returns rfl _ _ w.heap.size _ _ _ _ _ _ rfl (BoxAt.set (by exact HBZ.out))) rfl ?_
    rw [HE.out]
    exact ⟨⟨_, rfl, _, rfl, KidsAt.mono (set6_holds (S := fun d => w.heap.size < d) (fun h => absurd h (by omega))) (fun d h => by omega) _ _ _ HKI.out⟩, wrong_ok _ _, fin_but HK.out (by omega), HW.out.fin (by omega)⟩
  · rw [if_neg hlt] at HE0
    have HE := hide1 HE0
    clear HE0
    go_wp2_with (first
      | go_quiet (fail)
      | (go_at_call 23; refine (patA_is T hT 4098 k e f b _ (HR.out.keep ((Kept.refl _).alloc _ _)) h0 h1 (by omega)).mono ?_; rintro r w7 ⟨⟨v7, rfl, u7, rfl, hkk⟩, hg⟩; rw [HQ.out] at hg hkk ⊢; rw [valOf_eq]; obtain ⟨a7, c7, e7⟩ := hkk.form; subst e7; obtain ⟨hok7, hk7, hw7⟩ := hg; have HK := hide1 (but_allocd hk7); have HW := hide1 hw7; have HBZ := hide1 (BoxAt.but (BoxAt.new w _ _ _ _ _ _) hk7 (by omega)); have HKI := hide1 (KidsAt.mono (S' := fun d => w.heap.size < d) (fun _ _ _ _ h => h) (fun d h => by have h2 := h; simp at h2; omega) _ _ _ hkk); obtain ⟨c0, c1, c2, c3, c4⟩ := HW.out.cells; obtain ⟨⟨p0, p1, p2, p3, p4, p5⟩, x0, x1, x2, x3, x4, x5⟩ := HBZ.out.facts; have hb7 := HW.out.lt; have hz7 := HBZ.out.lt; clear hkk hk7 hw7 hok7))
    (try simp only [Exit.inBlock, Exit.then])
    refine bodyPost_ret (box_returns rfl _ _ w.heap.size _ _ _ _ _ _ rfl (BoxAt.set ((HBZ.out.keep ((Kept.refl _).alloc _ _)).keep (drewN_kept _ _)))) rfl ?_
    rw [HE.out]
    exact ⟨⟨_, rfl, _, rfl, KidsAt.mono (set6_holds (S := fun d => w.heap.size < d) (fun h => absurd h (by omega))) (fun d h => by omega) _ _ _ ((HKI.out.kept ((Kept.refl _).alloc _ _)).drew _)⟩, ok1, fin_but (but_drew (HK.out.trans (((Kept.refl _).alloc _ _).but b)) _) (by omega), ((HW.out.keep ((Kept.refl _).alloc _ _)).drew _).fin (by omega)⟩

end Ex
end Go.Proofs.YtnffjobobegieaaDoor
namespace Go.Proofs.YtnffjobobegieaaDoor
open Go.RowKit
attribute [local go_sem] Oper.semAt_some
namespace Ex

set_option linter.unusedSimpArgs false in
set_option maxRecDepth 100000 in
set_option maxHeartbeats 4000000 in
theorem ParseA_good (T : ByteArray) (p : Pat) (k f : Int) (w : World) (hT : T.size ≤ 4096) (hW : wholeA T (0, 0, 0) = (p, k, 0, f)) (hC : checkP p.2 = 0) :
    Calls Tryd.prog 6 #[.string T] w fun r w' => Hid (∃ v, r = .returned (.tuple #[v, .agg #[.int .i64 0, .int .i64 0, .string ⟨#[]⟩]]) ∧ PatV (fun d => w.heap.size ≤ d) w' p v) ∧ Kept w w' := by
  have HW0 := hide1 hW
  have HC := hide1 hC
  have gT : (T.size : Int) ≤ 4096 := by omega
  clear hW hC
  go_enter Tryd.func6, Tryd.ntmps6
  go_wp2_with (first
    | (go_at_call 13; refine (wholeA_is T 0 0 0 (w.heap.size + 1 + 1) _ (reader_new _ _ (by simp)) (by omega) (by omega) hT).mono ?_; rintro r w7 ⟨⟨v7, rfl, u7, rfl, hkk⟩, hg⟩; rw [HW0.out] at hg hkk ⊢; rw [valOf_eq]; obtain ⟨a7, c7, e7⟩ := hkk.form; subst e7; obtain ⟨hok7, hk7, hw7⟩ := hg; have HK := hide1 hk7; have HW := hide1 hw7; have HKI := hide1 (KidsAt.mono (S' := fun d => w.heap.size + 1 + 1 < d) (fun _ _ _ _ h => h) (fun d h => by have h2 := h; simp at h2; omega) _ _ _ hkk); obtain ⟨c0, c1, c2, c3, c4⟩ := HW.out.cells; obtain ⟨z0, z1, z2, z3, z4⟩ := HW.out.free; have hb7 := HW.out.lt; clear hkk hk7 hw7 hok7)
    | (go_at_call 9; refine (Check_is (fun d => w.heap.size + 1 + 1 < d ∧ d < w7.heap.size) p.1 p.2 _ _ (HKI.out.tight.kept ((Kept.refl _).alloc _ _)) (fun d hd => by simp; omega)).mono ?_; rintro r w8 ⟨rfl, hk8⟩; rw [HC.out]; have HK8 := hide1 hk8; have HW := hide1 ((HW.out.keep ((Kept.refl _).alloc _ _)).keep hk8); have HBE := hide1 ((BoxAt.new w7 _ _ _ _ _ _).keep hk8); have HG0 := hide1 (show BoxAt w8 w.heap.size (.int .i64 0) (.int .i64 0) (.int .i64 0) (.int .i64 0) (.int .i64 0) (.slice none 0 0) from parse_box0 HK.out hk8); have HG1 := hide1 (parse_box1 HK.out hk8); obtain ⟨c0, c1, c2, c3, c4⟩ := HW.out.cells; obtain ⟨z0, z1, z2, z3, z4⟩ := HW.out.free; obtain ⟨⟨q0, q1, q2, q3, q4, q5⟩, _⟩ := HBE.out.facts; obtain ⟨⟨p0, p1, p2, p3, p4, p5⟩, x0, x1, x2, x3, x4, x5⟩ := HG0.out.facts; obtain ⟨⟨r0, r1, r2⟩, s0, s1, s2⟩ := fault_facts HG1.out; have hsz := hk8.size; clear hk8))
  (try simp only [Exit.inBlock, Exit.then])
  refine bodyPost_ret (parse_results rfl _ _ w.heap.size (w.heap.size + 1) _ _ _ _ _ _ _ _ _ rfl (heap_set (heap_set (heap_set (BoxAt.set (y0 := .int .i64 0) (y1 := .int .i64 0) (y2 := .int .i64 0) (y3 := .int .i64 0) (y4 := .int .i64 0) (y5 := .slice none 0 0) (heap_set HG0.out (by omega))) (by omega)) (by omega)) (by omega)) rfl (FaultAt.set (y0 := .int .i64 0) (y1 := .int .i64 0) (y2 := .string ⟨#[]⟩) (heap_set (heap_set (heap_set (heap_set (heap_set (heap_set (heap_set HG1.out (by omega)) (by omega)) (by omega)) (by omega)) (by omega)) (by omega)) (by omega)))) rfl ?_
  have hkw : Kept w w8 := parse_kept HK.out HK8.out
  refine ⟨⟨_, rfl, _, rfl, ?_⟩, ?_⟩
  · refine KidsAt.mono (S := fun d => w.heap.size + 1 + 1 < d) ?_ (fun d h => by omega) _ _ _ ((HKI.out.kept ((Kept.refl _).alloc _ _)).kept HK8.out)
    exact ((((((((((Holds.set (fun _ _ _ _ h => h) (by omega)).set (by omega)).set (by omega)).set (by omega)).set (by omega)).set (by omega)).set (by omega)).set (by omega)).set (by omega)).set (by omega))
  · exact (((((((((hkw.set (by omega)).set (by omega)).set (by omega)).set (by omega)).set (by omega)).set (by omega)).set (by omega)).set (by omega)).set (by omega)).set (by omega)


theorem heap_drew {W : World} {d : Nat} {x : Option Obj} (h : W.heap[d]? = x) : (W.drew).heap[d]? = x := h
def zeroV : Value := .agg #[.int .i64 0, .int .i64 0, .int .i64 0, .int .i64 0, .int .i64 0, .slice none 0 0]
set_option linter.unusedSimpArgs false in
set_option maxRecDepth 100000 in
set_option maxHeartbeats 4000000 in
theorem ParseA_long (T : ByteArray) (w : World) (hT : 4096 < T.size) (hT2 : T.size ≤ 200000000000000) :
    Calls Tryd.prog 6 #[.string T] w fun r w' => r = .returned (.tuple #[zeroV, .agg #[.int .i64 2, .int .i64 0, .string ⟨#[]⟩]]) ∧ Kept w w' := by
  have gT : (4096 : Int) < T.size := by omega
  have gT2 : (T.size : Int) ≤ 200000000000000 := by omega
  unfold zeroV
  clear hT hT2
  go_enter Tryd.func6, Tryd.ntmps6
  go_wp2
  (try simp only [Exit.inBlock, Exit.then])
  refine bodyPost_ret (parse_results rfl _ _ w.heap.size (w.heap.size + 1) _ _ _ _ _ _ _ _ _ rfl ((heap_alloc_old _ _ (by simp)).trans (heap_alloc_new w _)) rfl (heap_alloc2_new w _ _)) rfl ?_
  exact ⟨rfl, ((Kept.refl w).alloc _ _).alloc _ _⟩

set_option linter.unusedSimpArgs false in
set_option maxRecDepth 100000 in
set_option maxHeartbeats 4000000 in
theorem ParseA_fault (T : ByteArray) (p : Pat) (k e f : Int) (w : World) (hT : T.size ≤ 4096) (hW : wholeA T (0, 0, 0) = (p, k, e, f)) (he : e ≠ 0) :
    Calls Tryd.prog 6 #[.string T] w fun r w' => r = .returned (.tuple #[zeroV, .agg #[.int .i64 e, .int .i64 f, .string ByteArray.empty]]) ∧ Kept w w' := by
  have HW0 := hide1 hW
  have gT : (T.size : Int) ≤ 4096 := by omega
  unfold zeroV
  clear hW
  go_enter Tryd.func6, Tryd.ntmps6
  go_wp2_with (first
    | (go_at_call 13; refine (wholeA_is T 0 0 0 (w.heap.size + 1 + 1) _ (reader_new _ _ (by simp)) (by omega) (by omega) hT).mono ?_; rintro r w7 ⟨⟨v7, rfl, u7, rfl, hkk⟩, hg⟩; rw [HW0.out] at hg hkk ⊢; rw [valOf_eq]; obtain ⟨a7, c7, e7⟩ := hkk.form; subst e7; obtain ⟨hok7, hk7, hw7⟩ := hg; have HK := hide1 hk7; have HW := hide1 hw7; have HKI := hide1 (KidsAt.mono (S' := fun d => w.heap.size + 1 + 1 < d) (fun _ _ _ _ h => h) (fun d h => by have h2 := h; simp at h2; omega) _ _ _ hkk); obtain ⟨c0, c1, c2, c3, c4⟩ := HW.out.cells; obtain ⟨z0, z1, z2, z3, z4⟩ := HW.out.free; have hb7 := HW.out.lt; have HG0 := hide1 (show BoxAt _ w.heap.size (.int .i64 0) (.int .i64 0) (.int .i64 0) (.int .i64 0) (.int .i64 0) (.slice none 0 0) from parse_box0 (c := #[.int .i64 (kind p.2), .int .i64 (from_ p.2), .int .i64 (to_ p.2), .int .i64 (min_ p.2), .int .i64 (max_ p.2), .slice a7 (kids p.2).length c7]) (t := 24) hk7 (Kept.refl _)); have HG1 := hide1 (parse_box1 (c := #[.int .i64 (kind p.2), .int .i64 (from_ p.2), .int .i64 (to_ p.2), .int .i64 (min_ p.2), .int .i64 (max_ p.2), .slice a7 (kids p.2).length c7]) (t := 24) hk7 (Kept.refl _)); obtain ⟨⟨p0, p1, p2, p3, p4, p5⟩, x0, x1, x2, x3, x4, x5⟩ := HG0.out.facts; obtain ⟨⟨r0, r1, r2⟩, s0, s1, s2⟩ := fault_facts HG1.out; clear hkk hk7 hw7 hok7)
    | go_region)
  (try simp only [Exit.inBlock, Exit.then])
  refine bodyPost_ret (parse_results rfl _ _ w.heap.size (w.heap.size + 1) _ _ _ _ _ _ _ _ _ rfl (heap_drew (heap_set (heap_set (heap_set (BoxAt.set (y0 := .int .i64 0) (y1 := .int .i64 0) (y2 := .int .i64 0) (y3 := .int .i64 0) (y4 := .int .i64 0) (y5 := .slice none 0 0) HG0.out) (by omega)) (by omega)) (by omega))) rfl (heap_drew (FaultAt.set (y0 := .int .i64 0) (y1 := .int .i64 0) (y2 := .string ⟨#[]⟩) (heap_set (heap_set (heap_set (heap_set (heap_set (heap_set HG1.out (by omega)) (by omega)) (by omega)) (by omega)) (by omega)) (by omega))))) rfl ?_
  have hkw := parse_kept (c := #[.int .i64 (kind p.2), .int .i64 (from_ p.2), .int .i64 (to_ p.2), .int .i64 (min_ p.2), .int .i64 (max_ p.2), .slice a7 (kids p.2).length c7]) (t := 24) HK.out (Kept.refl _)
  exact ⟨rfl, gtrans (((((((((hkw.set (by omega)).set (by omega)).set (by omega)).set (by omega)).set (by omega)).set (by omega)).set (by omega)).set (by omega)).set (by omega)) (drew_kept _)⟩

set_option linter.unusedSimpArgs false in
set_option maxRecDepth 100000 in
set_option maxHeartbeats 4000000 in
theorem ParseA_check (T : ByteArray) (p : Pat) (k f c : Int) (w : World) (hT : T.size ≤ 4096) (hW : wholeA T (0, 0, 0) = (p, k, 0, f)) (hC : checkP p.2 = c) (hc : c ≠ 0) :
    Calls Tryd.prog 6 #[.string T] w fun r w' => r = .returned (.tuple #[zeroV, .agg #[.int .i64 c, .int .i64 f, .string ByteArray.empty]]) ∧ Kept w w' := by
  have HW0 := hide1 hW
  have HC := hide1 hC
  have gT : (T.size : Int) ≤ 4096 := by omega
  unfold zeroV
  clear hW hC
  go_enter Tryd.func6, Tryd.ntmps6
  go_wp2_with (first
    | (go_at_call 13; refine (wholeA_is T 0 0 0 (w.heap.size + 1 + 1) _ (reader_new _ _ (by simp)) (by omega) (by omega) hT).mono ?_; rintro r w7 ⟨⟨v7, rfl, u7, rfl, hkk⟩, hg⟩; rw [HW0.out] at hg hkk ⊢; rw [valOf_eq]; obtain ⟨a7, c7, e7⟩ := hkk.form; subst e7; obtain ⟨hok7, hk7, hw7⟩ := hg; have HK := hide1 hk7; have HW := hide1 hw7; have HKI := hide1 (KidsAt.mono (S' := fun d => w.heap.size + 1 + 1 < d) (fun _ _ _ _ h => h) (fun d h => by have h2 := h; simp at h2; omega) _ _ _ hkk); obtain ⟨c0, c1, c2, c3, c4⟩ := HW.out.cells; obtain ⟨z0, z1, z2, z3, z4⟩ := HW.out.free; have hb7 := HW.out.lt; clear hkk hk7 hw7 hok7)
    | (go_at_call 9; refine (Check_is (fun d => w.heap.size + 1 + 1 < d ∧ d < w7.heap.size) p.1 p.2 _ _ (HKI.out.tight.kept ((Kept.refl _).alloc _ _)) (fun d hd => by simp; omega)).mono ?_; rintro r w8 ⟨rfl, hk8⟩; rw [HC.out]; have HK8 := hide1 hk8; have HW := hide1 ((HW.out.keep ((Kept.refl _).alloc _ _)).keep hk8); have HBE := hide1 ((BoxAt.new w7 _ _ _ _ _ _).keep hk8); have HG0 := hide1 (show BoxAt w8 w.heap.size (.int .i64 0) (.int .i64 0) (.int .i64 0) (.int .i64 0) (.int .i64 0) (.slice none 0 0) from parse_box0 HK.out hk8); have HG1 := hide1 (parse_box1 HK.out hk8); obtain ⟨c0, c1, c2, c3, c4⟩ := HW.out.cells; obtain ⟨z0, z1, z2, z3, z4⟩ := HW.out.free; obtain ⟨⟨q0, q1, q2, q3, q4, q5⟩, _⟩ := HBE.out.facts; obtain ⟨⟨p0, p1, p2, p3, p4, p5⟩, x0, x1, x2, x3, x4, x5⟩ := HG0.out.facts; obtain ⟨⟨r0, r1, r2⟩, s0, s1, s2⟩ := fault_facts HG1.out; have hsz := hk8.size; clear hk8)
    | go_region)
  (try simp only [Exit.inBlock, Exit.then])
  refine bodyPost_ret (parse_results rfl _ _ w.heap.size (w.heap.size + 1) _ _ _ _ _ _ _ _ _ rfl (heap_drew (heap_set (heap_set (heap_set (BoxAt.set (y0 := .int .i64 0) (y1 := .int .i64 0) (y2 := .int .i64 0) (y3 := .int .i64 0) (y4 := .int .i64 0) (y5 := .slice none 0 0) (heap_set HG0.out (by omega))) (by omega)) (by omega)) (by omega))) rfl (heap_drew (FaultAt.set (y0 := .int .i64 0) (y1 := .int .i64 0) (y2 := .string ⟨#[]⟩) (heap_set (heap_set (heap_set (heap_set (heap_set (heap_set (heap_set HG1.out (by omega)) (by omega)) (by omega)) (by omega)) (by omega)) (by omega)) (by omega))))) rfl ?_
  have hkw := parse_kept HK.out HK8.out
  exact ⟨rfl, gtrans ((((((((((hkw.set (by omega)).set (by omega)).set (by omega)).set (by omega)).set (by omega)).set (by omega)).set (by omega)).set (by omega)).set (by omega)).set (by omega)) (drew_kept _)⟩

end Ex
end Go.Proofs.YtnffjobobegieaaDoor
namespace Go.Proofs.YtnffjobobegieaaDoor
open Go.RowKit
attribute [local go_sem] Oper.semAt_some
namespace Ex

/-- What Parse answers: a pattern, a fault's number and its place. -/
def parseM (T : ByteArray) : Pat × Int × Int :=
  if 4096 < T.size then (zeroP, 2, 0)
  else if (wholeA T (0, 0, 0)).2.2.1 ≠ 0 then (zeroP, (wholeA T (0, 0, 0)).2.2.1, (wholeA T (0, 0, 0)).2.2.2)
  else if checkP (wholeA T (0, 0, 0)).1.2 ≠ 0 then (zeroP, checkP (wholeA T (0, 0, 0)).1.2, (wholeA T (0, 0, 0)).2.2.2)
  else ((wholeA T (0, 0, 0)).1, 0, 0)
theorem zeroV_pat (S : Nat → Prop) (w : World) : PatV S w zeroP zeroV := ⟨.slice none 0 0, rfl, kids_nil _ _ _ _ _ _ rfl⟩
theorem ParseA_is (T : ByteArray) (w : World) (hT : T.size ≤ 200000000000000) :
    Calls Tryd.prog 6 #[.string T] w fun r w' => Hid (∃ v, r = .returned (.tuple #[v, .agg #[.int .i64 (parseM T).2.1, .int .i64 (parseM T).2.2, .string ByteArray.empty]]) ∧ PatV (fun d => w.heap.size ≤ d) w' (parseM T).1 v) ∧ Kept w w' := by
  unfold parseM
  by_cases hl : 4096 < T.size
  · rw [if_pos hl]
    refine (ParseA_long T w hl hT).mono ?_
    rintro r w' ⟨rfl, hk⟩
    exact ⟨⟨zeroV, rfl, zeroV_pat _ _⟩, hk⟩
  · rw [if_neg hl]
    obtain ⟨⟨p, k, e, f⟩, hW⟩ : ∃ x, wholeA T (0, 0, 0) = x := ⟨_, rfl⟩
    rw [hW]
    dsimp only
    by_cases he : e = 0
    · subst he
      rw [if_neg (by simp)]
      by_cases hc : checkP p.2 = 0
      · rw [if_neg (by simpa using hc)]
        refine (ParseA_good T p k f w (by omega) hW hc).mono ?_
        rintro r w' ⟨h, hk⟩
        obtain ⟨v, rfl, hv⟩ := h.out
        exact ⟨⟨v, rfl, hv⟩, hk⟩
      · rw [if_pos hc]
        refine (ParseA_check T p k f _ w (by omega) hW rfl hc).mono ?_
        rintro r w' ⟨rfl, hk⟩
        exact ⟨⟨zeroV, rfl, zeroV_pat _ _⟩, hk⟩
    · rw [if_pos he]
      refine (ParseA_fault T p k e f w (by omega) hW he).mono ?_
      rintro r w' ⟨rfl, hk⟩
      exact ⟨⟨zeroV, rfl, zeroV_pat _ _⟩, hk⟩

end Ex
end Go.Proofs.YtnffjobobegieaaDoor
