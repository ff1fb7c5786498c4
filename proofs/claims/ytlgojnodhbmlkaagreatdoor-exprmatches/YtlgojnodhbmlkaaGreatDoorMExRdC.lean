import Derived.Test.YtlgojnodhbmlkaaGreatDoorMExRdA
import Derived.Test.YtlgojnodhbmlkaaGreatDoorMExBounds
namespace Go.Proofs.YtlgojnodhbmlkaaGreatDoor
open Go.RowKit
attribute [local go_sem] Oper.semAt_some
namespace Ex

theorem reader_new (w : World) (T : ByteArray) {b : Nat} (hb : w.heap.size = b) : RAt (w.alloc (.cells #[.string T, .int .i64 0, .int .i64 0, .int .i64 0, .string ⟨#[]⟩] 71)) b T 0 0 0 := by
  subst hb
  exact heap_alloc_new w _
theorem Holds.set {S : Nat → Prop} {w W : World} {g o : Nat} {v : Value} (h : Holds S w W) (hS : ¬ S g) : Holds S w (W.setCell ⟨g, o, none⟩ v) := by
  intro d o' u hd hc
  rw [← h d o' u hd hc]
  exact World.cell?_of_block (a := ⟨d, o', none⟩) (Below.heap_setCell _ _ _ _ (show d ≠ g from fun e => hS (e ▸ hd)))
theorem Kept.set {w W : World} {g o : Nat} {v : Value} (h : Kept w W) (hg : w.heap.size ≤ g) : Kept w (W.setCell ⟨g, o, none⟩ v) :=
  ⟨h.1, h.2.1, h.2.2.1, by simpa [World.setCell] using h.2.2.2.1, fun k hk => (Below.heap_setCell _ _ _ _ (show k ≠ g by omega)).trans (h.2.2.2.2 k hk)⟩
theorem heap_set {W : World} {g o d : Nat} {v : Value} {x : Option Obj} (h : W.heap[d]? = x) (hd : d ≠ g) : (W.setCell ⟨g, o, none⟩ v).heap[d]? = x := (Below.heap_setCell _ _ _ _ hd).trans h
def FaultAt (w : World) (g : Nat) (y0 y1 y2 : Value) : Prop := w.heap[g]? = some (.cells #[y0, y1, y2] 52 (0, 0))
theorem fault_facts {w : World} {g : Nat} {y0 y1 y2 : Value} (h : FaultAt w g y0 y1 y2) : (w.cell? ⟨g, 0, none⟩ = some y0 ∧ w.cell? ⟨g, 1, none⟩ = some y1 ∧ w.cell? ⟨g, 2, none⟩ = some y2) ∧ w.frozen? ⟨g, 0, none⟩ = false ∧ w.frozen? ⟨g, 1, none⟩ = false ∧ w.frozen? ⟨g, 2, none⟩ = false := by
  unfold FaultAt at h
  refine ⟨⟨?_, ?_, ?_⟩, ?_, ?_, ?_⟩ <;> simp [World.cell?, World.frozen?, h]
theorem FaultAt.set {W : World} {g : Nat} {y0 y1 y2 x0 x1 x2 : Value} (h : FaultAt W g y0 y1 y2) : FaultAt (((W.setCell ⟨g, 0, none⟩ x0).setCell ⟨g, 1, none⟩ x1).setCell ⟨g, 2, none⟩ x2) g x0 x1 x2 := by
  unfold FaultAt at h ⊢
  have hl : g < W.heap.size := (Array.getElem?_eq_some_iff.1 h).1
  have he : W.heap[g] = Obj.cells #[y0, y1, y2] 52 (0, 0) := by rw [Array.getElem?_eq_getElem hl] at h; exact Option.some.inj h
  simp [World.setCell, Array.getElem_modify, hl, he]
theorem parse_box0 {w w7 w8 : World} {o : Obj} {c : Array Value} {t : TypeId} (hk : KeptBut (w.heap.size + 1 + 1) (((w.alloc (.cells #[.int .i64 0, .int .i64 0, .int .i64 0, .int .i64 0, .int .i64 0, .slice none 0 0] 24)).alloc (.cells #[.int .i64 0, .int .i64 0, .string ⟨#[]⟩] 52)).alloc o) w7) (h8 : Kept (w7.alloc (.cells c t)) w8) : BoxAt w8 w.heap.size (.int .i64 0) (.int .i64 0) (.int .i64 0) (.int .i64 0) (.int .i64 0) (.slice none 0 0) := by
  have h1 : BoxAt (((w.alloc (.cells #[.int .i64 0, .int .i64 0, .int .i64 0, .int .i64 0, .int .i64 0, .slice none 0 0] 24)).alloc (.cells #[.int .i64 0, .int .i64 0, .string ⟨#[]⟩] 52)).alloc o) w.heap.size (.int .i64 0) (.int .i64 0) (.int .i64 0) (.int .i64 0) (.int .i64 0) (.slice none 0 0) := by
    unfold BoxAt
    rw [heap_alloc_old _ _ (by simp; omega), heap_alloc_old _ _ (by simp)]
    exact heap_alloc_new w _
  exact ((h1.but hk (by omega)).keep ((Kept.refl _).alloc c t)).keep h8
theorem parse_box1 {w w7 w8 : World} {o : Obj} {c : Array Value} {t : TypeId} (hk : KeptBut (w.heap.size + 1 + 1) (((w.alloc (.cells #[.int .i64 0, .int .i64 0, .int .i64 0, .int .i64 0, .int .i64 0, .slice none 0 0] 24)).alloc (.cells #[.int .i64 0, .int .i64 0, .string ⟨#[]⟩] 52)).alloc o) w7) (h8 : Kept (w7.alloc (.cells c t)) w8) : FaultAt w8 (w.heap.size + 1) (.int .i64 0) (.int .i64 0) (.string ⟨#[]⟩) := by
  have h1 : FaultAt (((w.alloc (.cells #[.int .i64 0, .int .i64 0, .int .i64 0, .int .i64 0, .int .i64 0, .slice none 0 0] 24)).alloc (.cells #[.int .i64 0, .int .i64 0, .string ⟨#[]⟩] 52)).alloc o) (w.heap.size + 1) (.int .i64 0) (.int .i64 0) (.string ⟨#[]⟩) := by
    unfold FaultAt
    rw [heap_alloc_old _ _ (by simp)]
    exact heap_alloc2_new w _ _
  have hl : w.heap.size + 1 < (((w.alloc (.cells #[.int .i64 0, .int .i64 0, .int .i64 0, .int .i64 0, .int .i64 0, .slice none 0 0] 24)).alloc (.cells #[.int .i64 0, .int .i64 0, .string ⟨#[]⟩] 52)).alloc o).heap.size := by simp
  have h2 : FaultAt w7 (w.heap.size + 1) (.int .i64 0) (.int .i64 0) (.string ⟨#[]⟩) := (hk.2.2.2.2 _ hl (by omega)).trans h1
  have h3 : w.heap.size + 1 < w7.heap.size := Nat.lt_of_lt_of_le hl hk.2.2.2.1
  have hk2 := gtrans ((Kept.refl w7).alloc c t) h8
  exact (hk2.2.2.2.2 _ h3).trans h2
def wholeS (T : ByteArray) (s : Int × Int × Int) : Pat × Int × Int × Int := if (patS T 4098 s).2.1 < T.size then ((patS T 4098 s).1, wrongS T (patS T 4098 s).2) else patS T 4098 s
set_option linter.unusedSimpArgs false in
set_option maxRecDepth 100000 in
set_option maxHeartbeats 4000000 in
theorem whole_is (T : ByteArray) (k e f : Int) (b : Nat) (w : World) (h : RAt w b T k e f) (h0 : 0 ≤ k) (h1 : k ≤ T.size) (hT : T.size ≤ 4096) (hP : Plain T) :
    Calls Tryz.prog 35 #[.pointer (some ⟨b, 0, none⟩)] w fun r w' => PGives (fun d => w.heap.size ≤ d) (wholeS T (k, e, f)).1 r w' ∧ RGave b w T (wholeS T (k, e, f)).2 w' := by
  have HR := hide1 h
  have HP := hide1 hP
  have hb := h.lt
  have gT : (T.size : Int) ≤ 4096 := by omega
  have oka := pat_ok (T := T) 4098 (k, e, f) ⟨h0, h1⟩ (by show (T.size : Int) < k + ((4098 : Nat) : Int); omega)
  have HE0 : wholeS T (k, e, f) = if (patS T 4098 (k, e, f)).2.1 < T.size then ((patS T 4098 (k, e, f)).1, wrongS T (patS T 4098 (k, e, f)).2) else patS T 4098 (k, e, f) := rfl
  obtain ⟨⟨q, k1, e1, f1⟩, hq⟩ : ∃ x, patS T 4098 (k, e, f) = x := ⟨_, rfl⟩
  rw [hq] at oka HE0
  have HQ := hide1 hq
  obtain ⟨ok1, hlt1⟩ := oka
  unfold OkS at ok1
  dsimp only at ok1 hlt1 HE0
  clear h hP hq
  go_enter Tryz.func35, Tryz.ntmps35
  by_cases hlt : k1 < T.size
  · rw [if_pos hlt] at HE0
    have HE := hide1 HE0
    clear HE0
    go_wp2_with (first
      | go_quiet (fail)
      | (go_at_call 48; refine (patS_is T hT HP.out 4098 k e f b _ (HR.out.keep ((Kept.refl _).alloc _ _)) h0 h1 (by omega)).mono ?_; rintro r w7 ⟨⟨v7, rfl, u7, rfl, hkk⟩, hg⟩; rw [HQ.out] at hg hkk ⊢; rw [valOf_eq]; obtain ⟨a7, c7, e7⟩ := hkk.form; subst e7; obtain ⟨hok7, hk7, hw7⟩ := hg; have HK := hide1 (but_allocd hk7); have HW := hide1 hw7; have HBZ := hide1 (BoxAt.but (BoxAt.new w _ _ _ _ _ _) hk7 (by omega)); have HKI := hide1 (KidsAt.mono (S' := fun d => w.heap.size < d) (fun _ _ _ _ h => h) (fun d h => by have h2 := h; simp at h2; omega) _ _ _ hkk); obtain ⟨c0, c1, c2, c3, c4⟩ := HW.out.cells; obtain ⟨⟨p0, p1, p2, p3, p4, p5⟩, x0, x1, x2, x3, x4, x5⟩ := HBZ.out.facts; have hb7 := HW.out.lt; have hz7 := HBZ.out.lt; clear hkk hk7 hw7 hok7)
      | (go_at_call 49; refine (wrong_is T _ _ _ b _ ((HW.out.keep ((Kept.refl _).alloc _ _)).drew _) hT).mono ?_; rintro r w10 ⟨rfl, hq10, hw10⟩; have hk10 := but_allocd (but_undrew hq10); have HBE := hide1 (BoxAt.but (BoxAt.new w7 _ _ _ _ _ _) (but_undrew hq10) (by omega)); have HKI := hide1 (KidsAt.mono (hk10.holds (S := fun d => w.heap.size < d) (by omega)) (fun _ h => h) _ _ _ HKI.out); have HK := hide1 (HK.out.trans hk10); have HW := hide1 hw10; have HBZ := hide1 (HBZ.out.but hk10 (by omega)); obtain ⟨⟨q0, q1, q2, q3, q4, q5⟩, _⟩ := HBE.out.facts; obtain ⟨⟨p0, p1, p2, p3, p4, p5⟩, x0, x1, x2, x3, x4, x5⟩ := HBZ.out.facts; clear hk10 hq10 hw10))
    (try simp only [Exit.inBlock, Exit.then])
    refine bodyPost_ret (box_returns rfl _ _ w.heap.size _ _ _ _ _ _ rfl (BoxAt.set (by exact HBZ.out))) rfl ?_
    rw [HE.out]
    exact ⟨⟨_, rfl, _, rfl, KidsAt.mono (set6_holds (S := fun d => w.heap.size < d) (fun h => absurd h (by omega))) (fun d h => by omega) _ _ _ HKI.out⟩, wrong_ok _ _, fin_but HK.out (by omega), HW.out.fin (by omega)⟩
  · rw [if_neg hlt] at HE0
    have HE := hide1 HE0
    clear HE0
    go_wp2_with (first
      | go_quiet (fail)
      | (go_at_call 48; refine (patS_is T hT HP.out 4098 k e f b _ (HR.out.keep ((Kept.refl _).alloc _ _)) h0 h1 (by omega)).mono ?_; rintro r w7 ⟨⟨v7, rfl, u7, rfl, hkk⟩, hg⟩; rw [HQ.out] at hg hkk ⊢; rw [valOf_eq]; obtain ⟨a7, c7, e7⟩ := hkk.form; subst e7; obtain ⟨hok7, hk7, hw7⟩ := hg; have HK := hide1 (but_allocd hk7); have HW := hide1 hw7; have HBZ := hide1 (BoxAt.but (BoxAt.new w _ _ _ _ _ _) hk7 (by omega)); have HKI := hide1 (KidsAt.mono (S' := fun d => w.heap.size < d) (fun _ _ _ _ h => h) (fun d h => by have h2 := h; simp at h2; omega) _ _ _ hkk); obtain ⟨c0, c1, c2, c3, c4⟩ := HW.out.cells; obtain ⟨⟨p0, p1, p2, p3, p4, p5⟩, x0, x1, x2, x3, x4, x5⟩ := HBZ.out.facts; have hb7 := HW.out.lt; have hz7 := HBZ.out.lt; clear hkk hk7 hw7 hok7))
    (try simp only [Exit.inBlock, Exit.then])
    refine bodyPost_ret (box_returns rfl _ _ w.heap.size _ _ _ _ _ _ rfl (BoxAt.set ((HBZ.out.keep ((Kept.refl _).alloc _ _)).keep (drewN_kept _ _)))) rfl ?_
    rw [HE.out]
    exact ⟨⟨_, rfl, _, rfl, KidsAt.mono (set6_holds (S := fun d => w.heap.size < d) (fun h => absurd h (by omega))) (fun d h => by omega) _ _ _ ((HKI.out.kept ((Kept.refl _).alloc _ _)).drew _)⟩, ok1, fin_but (but_drew (HK.out.trans (((Kept.refl _).alloc _ _).but b)) _) (by omega), ((HW.out.keep ((Kept.refl _).alloc _ _)).drew _).fin (by omega)⟩

theorem parse_results {fn : Func} {p q : Tmp} (h : fn.results = #[.cell p 24, .cell q 52]) (tmps : Array Value) (w : World) (g g' : Nat) (x0 x1 x2 x3 x4 x5 y0 y1 y2 : Value)
    (hp : tmps.getD p undef = .pointer (some ⟨g, 0, none⟩)) (hg : w.heap[g]? = some (.cells #[x0, x1, x2, x3, x4, x5] 24 (0, 0)))
    (hp' : tmps.getD q undef = .pointer (some ⟨g', 0, none⟩)) (hg' : w.heap[g']? = some (.cells #[y0, y1, y2] 52 (0, 0))) :
    (results fn tmps).run Tryz.prog w = .ok (.tuple #[.agg #[x0, x1, x2, x3, x4, x5], .agg #[y0, y1, y2]]) w := by
  have hp2 : tmps[p]?.getD undef = .pointer (some ⟨g, 0, none⟩) := by simpa using hp
  have hp3 : tmps[q]?.getD undef = .pointer (some ⟨g', 0, none⟩) := by simpa using hp'
  have e1 := run_loadVar_row (P := Tryz.prog) w g 24 24 _ (0, 0) _ hg Tryz.underlying24 rfl (by kernel_rfl)
  have e2 := run_loadVar_row (P := Tryz.prog) w g' 52 52 _ (0, 0) _ hg' Tryz.underlying52 rfl (by kernel_rfl)
  simp [results, h, hp2, hp3, asAddr, e1, e2]

theorem parse_kept {w w7 w8 : World} {o1 o2 o3 : Obj} {c : Array Value} {t : TypeId} (hk : KeptBut (w.heap.size + 1 + 1) (((w.alloc o1).alloc o2).alloc o3) w7) (h8 : Kept (w7.alloc (.cells c t)) w8) : Kept w w8 := by
  have h1 : Kept w (((w.alloc o1).alloc o2).alloc o3) := Kept.of ((((Below.refl _ _).alloc (Nat.le_refl _) _).alloc (by simp) _).alloc (by simp; omega) _)
  have h2 : Kept w w7 := KeptBut.up h1 (by omega) hk
  exact gtrans (h2.alloc c t) h8
set_option linter.unusedSimpArgs false in
set_option maxRecDepth 100000 in
set_option maxHeartbeats 4000000 in
theorem Parse_good (T : ByteArray) (p : Pat) (k f : Int) (w : World) (hT : T.size ≤ 4096) (hP : Plain T) (hW : wholeS T (0, 0, 0) = (p, k, 0, f)) (hC : checkP p.2 = 0) :
    Calls Tryz.prog 23 #[.string T] w fun r w' => Hid (∃ v, r = .returned (.tuple #[v, .agg #[.int .i64 0, .int .i64 0, .string ⟨#[]⟩]]) ∧ PatV (fun d => w.heap.size ≤ d) w' p v) ∧ Kept w w' := by
  have HW0 := hide1 hW
  have HP := hide1 hP
  have HC := hide1 hC
  have gT : (T.size : Int) ≤ 4096 := by omega
  clear hW hP hC
  go_enter Tryz.func23, Tryz.ntmps23
  go_wp2_with (first
    | (go_at_call 35; refine (whole_is T 0 0 0 (w.heap.size + 1 + 1) _ (reader_new _ _ (by simp)) (by omega) (by omega) hT HP.out).mono ?_; rintro r w7 ⟨⟨v7, rfl, u7, rfl, hkk⟩, hg⟩; rw [HW0.out] at hg hkk ⊢; rw [valOf_eq]; obtain ⟨a7, c7, e7⟩ := hkk.form; subst e7; obtain ⟨hok7, hk7, hw7⟩ := hg; have HK := hide1 hk7; have HW := hide1 hw7; have HKI := hide1 (KidsAt.mono (S' := fun d => w.heap.size + 1 + 1 < d) (fun _ _ _ _ h => h) (fun d h => by have h2 := h; simp at h2; omega) _ _ _ hkk); obtain ⟨c0, c1, c2, c3, c4⟩ := HW.out.cells; obtain ⟨z0, z1, z2, z3, z4⟩ := HW.out.free; have hb7 := HW.out.lt; clear hkk hk7 hw7 hok7)
    | (go_at_call 26; refine (Check_is (fun d => w.heap.size + 1 + 1 < d ∧ d < w7.heap.size) p.1 p.2 _ _ (HKI.out.tight.kept ((Kept.refl _).alloc _ _)) (fun d hd => by simp; omega)).mono ?_; rintro r w8 ⟨rfl, hk8⟩; rw [HC.out]; have HK8 := hide1 hk8; have HW := hide1 ((HW.out.keep ((Kept.refl _).alloc _ _)).keep hk8); have HBE := hide1 ((BoxAt.new w7 _ _ _ _ _ _).keep hk8); have HG0 := hide1 (show BoxAt w8 w.heap.size (.int .i64 0) (.int .i64 0) (.int .i64 0) (.int .i64 0) (.int .i64 0) (.slice none 0 0) from parse_box0 HK.out hk8); have HG1 := hide1 (parse_box1 HK.out hk8); obtain ⟨c0, c1, c2, c3, c4⟩ := HW.out.cells; obtain ⟨z0, z1, z2, z3, z4⟩ := HW.out.free; obtain ⟨⟨q0, q1, q2, q3, q4, q5⟩, _⟩ := HBE.out.facts; obtain ⟨⟨p0, p1, p2, p3, p4, p5⟩, x0, x1, x2, x3, x4, x5⟩ := HG0.out.facts; obtain ⟨⟨r0, r1, r2⟩, s0, s1, s2⟩ := fault_facts HG1.out; have hsz := hk8.size; clear hk8))
  (try simp only [Exit.inBlock, Exit.then])
  refine bodyPost_ret (parse_results rfl _ _ w.heap.size (w.heap.size + 1) _ _ _ _ _ _ _ _ _ rfl (heap_set (heap_set (heap_set (BoxAt.set (y0 := .int .i64 0) (y1 := .int .i64 0) (y2 := .int .i64 0) (y3 := .int .i64 0) (y4 := .int .i64 0) (y5 := .slice none 0 0) (heap_set HG0.out (by omega))) (by omega)) (by omega)) (by omega)) rfl (FaultAt.set (y0 := .int .i64 0) (y1 := .int .i64 0) (y2 := .string ⟨#[]⟩) (heap_set (heap_set (heap_set (heap_set (heap_set (heap_set (heap_set HG1.out (by omega)) (by omega)) (by omega)) (by omega)) (by omega)) (by omega)) (by omega)))) rfl ?_
  have hkw : Kept w w8 := parse_kept HK.out HK8.out
  refine ⟨⟨_, rfl, _, rfl, ?_⟩, ?_⟩
  · refine KidsAt.mono (S := fun d => w.heap.size + 1 + 1 < d) ?_ (fun d h => by omega) _ _ _ ((HKI.out.kept ((Kept.refl _).alloc _ _)).kept HK8.out)
    exact ((((((((((Holds.set (fun _ _ _ _ h => h) (by omega)).set (by omega)).set (by omega)).set (by omega)).set (by omega)).set (by omega)).set (by omega)).set (by omega)).set (by omega)).set (by omega))
  · exact (((((((((hkw.set (by omega)).set (by omega)).set (by omega)).set (by omega)).set (by omega)).set (by omega)).set (by omega)).set (by omega)).set (by omega)).set (by omega)

end Ex
end Go.Proofs.YtlgojnodhbmlkaaGreatDoor
