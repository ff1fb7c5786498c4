import Derived.Test.YtooelfjceehmmaaDoorMSpDb
import Derived.Test.YtooelfjceehmmaaDoorMExSize
import Derived.Laws.MakeOwn
import Derived.Deep.Cut
namespace Go.Proofs.YtooelfjceehmmaaDoor
open Go.RowKit
attribute [local go_sem] Oper.semAt_some
namespace Ex

theorem sizes_mem {n : Nat} {q : PatN n} : ∀ {L : List (PatN n)}, q ∈ L → sizeP n q ≤ sizesP n L
  | x :: L, h => by
    have h1 := sizes_pos n L
    have h2 := size_pos n x
    show sizeP n q ≤ sizeP n x + sizesP n L
    rcases List.mem_cons.1 h with rfl | h
    · omega
    · have := sizes_mem h; omega
  | [], h => by cases h
/-- The cells of a new row. -/
def rowZ (M : Nat) : Array Value := madeCells (Value.agg #[.int .i64 0, .int .i64 0, .int .i64 0, .int .i64 0, .int .i64 0, .slice none 0 0]).cells (M * 6)
theorem run_row (n : Nat) (hn : n ≤ 100000) (w : World) : (Instr.makeSlice 85 (.int .i64 ((n : Int) + 1)) (.int .i64 ((n : Int) + 1))).run Tryd.prog w = .ok (.slice (some ⟨w.heap.size, 0, none⟩) (n + 1) (n + 1)) (w.alloc (.cells (rowZ (n + 1)) 87)) := by
  obtain ⟨i0, hi, hz0, hz1, hz2⟩ := info_parts expr_info
  rw [run_make (P := Tryd.prog) w 85 87 i0 _ Tryd.underlying85 hi hz0 .i64 .i64 ((n : Int) + 1) ((n : Int) + 1) (by omega) (Int.le_refl _) (by rw [hz2]; omega) (by omega), hz1]
  rfl
theorem row_new (w : World) (M : Nat) : RowAt (w.alloc (.cells (rowZ M) 87)) w.heap.size M := ⟨rowZ M, heap_alloc_new w _, size_madeCells _ _⟩
/-- The copies that are made. -/
def Items (w : World) (g : Nat) {n : Nat} (L : List (PatN (n + 1))) (j : Nat) : Prop :=
  ∀ (i : Nat) (q : PatN (n + 1)), i < j → L[i]? = some q → ∃ v',
      w.cell? ⟨g, i * 6, none⟩ = some (.int .i64 (kind q)) ∧ w.cell? ⟨g, i * 6 + 1, none⟩ = some (.int .i64 (from_ q)) ∧ w.cell? ⟨g, i * 6 + 2, none⟩ = some (.int .i64 (to_ q)) ∧
      w.cell? ⟨g, i * 6 + 3, none⟩ = some (.int .i64 (min_ q)) ∧ w.cell? ⟨g, i * 6 + 4, none⟩ = some (.int .i64 (max_ q)) ∧ w.cell? ⟨g, i * 6 + 5, none⟩ = some v' ∧ MarkAt (fun d => g < d) w n (kids q) v'
theorem Items.keep {w w' : World} {g n j : Nat} {L : List (PatN (n + 1))} (h : Items w g L j) (hk : Holds (fun d => g ≤ d) w w') : Items w' g L j := fun i q hi hq => by
  obtain ⟨v', g0, g1, g2, g3, g4, g5, g6⟩ := h i q hi hq
  exact ⟨v', hk _ _ _ (Nat.le_refl _) g0, hk _ _ _ (Nat.le_refl _) g1, hk _ _ _ (Nat.le_refl _) g2, hk _ _ _ (Nat.le_refl _) g3, hk _ _ _ (Nat.le_refl _) g4, hk _ _ _ (Nat.le_refl _) g5, MarkAt.mono (fun b o v hb hc => hk b o v (Nat.le_of_lt hb) hc) (fun _ h => h) _ _ _ g6⟩
theorem Items.put {w : World} {g n j M : Nat} {L : List (PatN (n + 1))} {q : PatN (n + 1)} {u x0 x1 x2 x3 x4 : Value} (h : Items w g L j) (hr : RowAt w g M) (hj : j + 1 ≤ M) (hq : L[j]? = some q) (hm : MarkAt (fun d => g < d) w n (kids q) u)
    (e0 : x0 = .int .i64 (kind q)) (e1 : x1 = .int .i64 (from_ q)) (e2 : x2 = .int .i64 (to_ q)) (e3 : x3 = .int .i64 (min_ q)) (e4 : x4 = .int .i64 (max_ q)) :
    Items ((((((w.setCell ⟨g, j * 6, none⟩ x0).setCell ⟨g, j * 6 + 1, none⟩ x1).setCell ⟨g, j * 6 + 2, none⟩ x2).setCell ⟨g, j * 6 + 3, none⟩ x3).setCell ⟨g, j * 6 + 4, none⟩ x4).setCell ⟨g, j * 6 + 5, none⟩ u) g L (j + 1) := by
  intro i q' hi hq'
  have hmono : ∀ (l : List (PatN n)) (v : Value), MarkAt (fun d => g < d) w n l v → MarkAt (fun d => g < d) ((((((w.setCell ⟨g, j * 6, none⟩ x0).setCell ⟨g, j * 6 + 1, none⟩ x1).setCell ⟨g, j * 6 + 2, none⟩ x2).setCell ⟨g, j * 6 + 3, none⟩ x3).setCell ⟨g, j * 6 + 4, none⟩ x4).setCell ⟨g, j * 6 + 5, none⟩ u) n l v :=
    fun l v hv => MarkAt.mono (fun b o v hb hc => (put_other (.inl (by have : g < b := hb; omega))).trans hc) (fun _ h => h) _ _ _ hv
  by_cases hij : i = j
  · subst hij
    obtain rfl : q = q' := Option.some.inj (hq.symm.trans hq')
    subst e0 e1 e2 e3 e4
    obtain ⟨g0, g1, g2, g3, g4, g5⟩ := put_cells (o := i * 6) (x0 := .int .i64 (kind q)) (x1 := .int .i64 (from_ q)) (x2 := .int .i64 (to_ q)) (x3 := .int .i64 (min_ q)) (x4 := .int .i64 (max_ q)) (x5 := u) hr (by omega)
    exact ⟨u, g0, g1, g2, g3, g4, g5, hmono _ _ hm⟩
  · obtain ⟨v', g0, g1, g2, g3, g4, g5, g6⟩ := h i q' (by omega) hq'
    exact ⟨v', (put_other (.inr (by omega))).trans g0, (put_other (.inr (by omega))).trans g1, (put_other (.inr (by omega))).trans g2, (put_other (.inr (by omega))).trans g3, (put_other (.inr (by omega))).trans g4, (put_other (.inr (by omega))).trans g5, hmono _ _ g6⟩
theorem two_new (w : World) (o : Obj) (x0 x1 x2 x3 x4 x5 : Value) : BoxAt ((w.alloc o).alloc (.cells #[x0, x1, x2, x3, x4, x5] 87)) (w.heap.size + 1) x0 x1 x2 x3 x4 x5 := by
  have h := BoxAt.new (w.alloc o) x0 x1 x2 x3 x4 x5
  rwa [World.size_alloc] at h
theorem three_new (w : World) (o : Obj) (x0 x1 x2 x3 x4 x5 : Value) (c : Array Value) (t : TypeId) : BoxAt (((w.alloc o).alloc (.cells #[x0, x1, x2, x3, x4, x5] 87)).alloc (.cells c t)) (w.heap.size + 1) x0 x1 x2 x3 x4 x5 := (two_new w o x0 x1 x2 x3 x4 x5).keep ((Kept.refl _).alloc _ _)
theorem BoxAt.set5 {w : World} {g : Nat} {x0 x1 x2 x3 x4 x5 : Value} (h : BoxAt w g x0 x1 x2 x3 x4 x5) (y : Value) : BoxAt (w.setCell ⟨g, 5, none⟩ y) g x0 x1 x2 x3 x4 y := by
  have hl : g < w.heap.size := (Array.getElem?_eq_some_iff.1 h).1
  have he : w.heap[g] = Obj.cells #[x0, x1, x2, x3, x4, x5] 87 (0, 0) := by have h' := h; unfold BoxAt at h'; rw [Array.getElem?_eq_getElem hl] at h'; exact Option.some.inj h'
  show (w.setCell ⟨g, 5, none⟩ y).heap[g]? = _
  simp [World.setCell, Array.getElem_modify, hl, he]
/-- twin between two rounds; W: the world ahead of the row. -/
def TwR (W : World) (g : Nat) {n : Nat} (L : List (PatN (n + 1))) (iv : Value) (wr : World) : Prop :=
  ∃ j : Nat, iv = .int .i64 (j : Int) ∧ j ≤ L.length ∧ Kept W wr ∧ RowAt wr g (L.length + 1) ∧ Items wr g L j

set_option linter.unusedSimpArgs false in
set_option maxRecDepth 100000 in
set_option maxHeartbeats 4000000 in
theorem twin_is (S : Nat → Prop) : ∀ (n : Nat) (p : PatN (n + 1)) (v : Value) (w : World), KidsAt S w n (kids p) v → sizeP (n + 1) p ≤ 4096 →
    Calls Tryd.prog 65 #[valOf p v] w fun e w' => Hid (∃ v2, e = .returned (valOf p v2) ∧ MarkAt (fun d => w.heap.size ≤ d) w' n (kids p) v2) ∧ Kept w w' := by
  intro n
  induction n with
  | zero =>
    intro p v w h _
    obtain ⟨a, cap, rfl⟩ := h.form
    rw [valOf_eq]
    rw [none_of (kids p)]
    clear h
    go_enter Tryd.func65, Tryd.ntmps65
    go_wp2_with fail
    refine bodyPost_ret (box_returns rfl _ _ (w.heap.size + 1) (.int .i64 (kind p)) (.int .i64 (from_ p)) (.int .i64 (to_ p)) (.int .i64 (min_ p)) (.int .i64 (max_ p)) (.slice none 0 0) rfl ?_) rfl ?_
    · exact three_new w _ _ _ _ _ _ _ _ _
    · exact ⟨⟨_, rfl, rfl⟩, (((Kept.refl w).alloc _ _).alloc _ _).alloc _ _⟩
  | succ n ih =>
    intro p v w h hsz
    have IH := hide1 ih
    have HK := hide1 h
    obtain ⟨a, cap, rfl⟩ := h.form
    obtain ⟨_, _, e1, hl1, hl2, h4z⟩ := h
    clear h4z
    simp only [Value.slice.injEq] at e1
    obtain ⟨rfl, _, rfl⟩ := e1
    rw [size_succ] at hsz
    have hln := sizes_len (kids p)
    rw [valOf_eq]
    have HV : Hid (∀ u, valOf p u = .agg #[.int .i64 (kind p), .int .i64 (from_ p), .int .i64 (to_ p), .int .i64 (min_ p), .int .i64 (max_ p), u]) := fun u => rfl
    obtain ⟨L, hL⟩ : ∃ L, kids p = L := ⟨_, rfl⟩
    rw [hL] at HK hl1 hl2 hsz hln ⊢
    have HSQ : Hid (∀ q ∈ L, sizeP (n + 1) q ≤ 4096) := fun q hq => by have := sizes_mem hq; omega
    have gl : (L.length : Int) ≤ 4095 := by omega
    have gc : (L.length : Int) ≤ (cap : Int) := by omega
    clear ih hsz hln hL hl1 hl2
    by_cases h0 : L.length = 0
    · have hz : L = [] := List.length_eq_zero_iff.1 h0
      subst hz
      clear h0
      go_enter Tryd.func65, Tryd.ntmps65
      go_wp2_with fail
      refine bodyPost_ret (box_returns rfl _ _ (w.heap.size + 1) (.int .i64 (kind p)) (.int .i64 (from_ p)) (.int .i64 (to_ p)) (.int .i64 (min_ p)) (.int .i64 (max_ p)) (.slice none 0 0) rfl ?_) rfl ?_
      · exact three_new w _ _ _ _ _ _ _ _ _
      · exact ⟨⟨_, rfl, Or.inl ⟨rfl, rfl⟩⟩, (((Kept.refl w).alloc _ _).alloc _ _).alloc _ _⟩
    · have hp0 : (0 : Int) < (L.length : Int) := by omega
      have HP0 := hide1 h0
      clear h0
      go_enter Tryd.func65, Tryd.ntmps65
      have hmk := run_row L.length (by omega)
      go_wp2_with fail
      obtain ⟨W, hW⟩ : ∃ W, ((w.alloc (.cells #[.int .i64 (kind p), .int .i64 (from_ p), .int .i64 (to_ p), .int .i64 (min_ p), .int .i64 (max_ p), .slice a L.length cap] 87)).alloc (.cells #[.int .i64 0, .int .i64 0, .int .i64 0, .int .i64 0, .int .i64 0, .slice none 0 0] 87)).alloc (.cells #[.int .i64 (kind p), .int .i64 (from_ p), .int .i64 (to_ p), .int .i64 (min_ p), .int .i64 (max_ p), .slice none 0 0] 87) = W := ⟨_, rfl⟩
      have hb0 : BoxAt W w.heap.size (.int .i64 (kind p)) (.int .i64 (from_ p)) (.int .i64 (to_ p)) (.int .i64 (min_ p)) (.int .i64 (max_ p)) (.slice a L.length cap) := by rw [← hW]; exact (BoxAt.new w _ _ _ _ _ _).keep (((Kept.refl _).alloc _ _).alloc _ _)
      have hb1 : BoxAt W (w.heap.size + 1) (.int .i64 0) (.int .i64 0) (.int .i64 0) (.int .i64 0) (.int .i64 0) (.slice none 0 0) := by rw [← hW]; exact three_new w _ _ _ _ _ _ _ _ _
      have hb2 : BoxAt W (w.heap.size + 1 + 1) (.int .i64 (kind p)) (.int .i64 (from_ p)) (.int .i64 (to_ p)) (.int .i64 (min_ p)) (.int .i64 (max_ p)) (.slice none 0 0) := by
        have h := two_new (w.alloc (.cells #[.int .i64 (kind p), .int .i64 (from_ p), .int .i64 (to_ p), .int .i64 (min_ p), .int .i64 (max_ p), .slice a L.length cap] 87)) (.cells #[.int .i64 0, .int .i64 0, .int .i64 0, .int .i64 0, .int .i64 0, .slice none 0 0] 87) (.int .i64 (kind p)) (.int .i64 (from_ p)) (.int .i64 (to_ p)) (.int .i64 (min_ p)) (.int .i64 (max_ p)) (.slice none 0 0)
        rw [World.size_alloc, hW] at h
        exact h
      have hwk : Kept w W := by rw [← hW]; exact (((Kept.refl w).alloc _ _).alloc _ _).alloc _ _
      have hws : W.heap.size = w.heap.size + 1 + 1 + 1 := by rw [← hW]; simp
      have hdc : decide (0 < L.length) = true := decide_eq_true (by omega)
      rw [hW, hdc]
      clear hdc
      obtain ⟨g, hg⟩ : ∃ g, w.heap.size + 1 + 1 + 1 = g := ⟨_, rfl⟩
      rw [hg] at hws ⊢
      have HB0 := hide1 hb0
      have HB1 := hide1 hb1
      have HB2 := hide1 hb2
      have HWK := hide1 hwk
      have HWS := hide1 hws
      have HG := hide1 hg
      clear hb0 hb1 hb2 hwk hW hmk hg
      go_loopw [5] (fun iv wr => TwR W g L iv wr) (fun iv _ => L.length - (intOf iv).toNat)
      case atStart =>
        refine ⟨0, rfl, Nat.zero_le _, (Kept.refl W).alloc _ _, ?_, fun i q hi _ => by omega⟩
        have := row_new W (L.length + 1)
        rwa [hws] at this
      case round =>
        clear hws
        obtain ⟨j, rfl, hj, hkr, hrow, hit⟩ := hrel
        have HKR := hide1 hkr
        have HROW := hide1 hrow
        have HIT := hide1 hit
        have c5 := (HB0.out.keep hkr).facts.1.2.2.2.2.2
        clear hkr hrow hit
        by_cases hlt : (j : Int) < (L.length : Int)
        · obtain ⟨q, hq⟩ : ∃ q, L[j]? = some q := ⟨_, List.getElem?_eq_getElem (by omega)⟩
          obtain ⟨a5, cap5, e2, _, _, h4⟩ := HK.out.kept (gtrans HWK.out HKR.out)
          simp only [Value.slice.injEq] at e2
          obtain ⟨rfl, _, rfl⟩ := e2
          rcases h4 with h4 | ⟨cb, o, rfl, hSc, h7⟩
          · rw [h4] at hq; simp at hq
          · obtain ⟨v', g0, g1, g2, g3, g4, g5, g6⟩ := h7 j q hq
            obtain ⟨a3, cap3, rfl⟩ := g6.form
            have HG6 := hide1 g6
            have HQ := hide1 hq
            have HQS := hide1 (HSQ.out q (List.mem_of_getElem? hq))
            clear h7 g6 hq
            go_wp2_with (go_at_call 65; refine (IH.out q _ _ HG6.out HQS.out).mono ?_; rintro e w7 ⟨h7, hk7⟩; obtain ⟨v7, rfl, hm7⟩ := h7.out; rw [valOf_eq]; obtain ⟨a7, c7, e7⟩ := hm7.form; subst e7; have HM7 := hide1 hm7; have HK7 := hide1 hk7; have HR7 := hide1 (HROW.out.keep hk7); obtain ⟨y0, y1, y2, y3, y4, y5, ⟨k0, k1, k2, k3, k4, k5⟩, f0, f1, f2, f3, f4, f5⟩ := HR7.out.at (j := j) (by omega); clear h7 hm7 hk7)
            clear k0 k1 k2 k3 k4 k5 f0 f1 f2 f3 f4 f5 g0 g1 g2 g3 g4 g5 c5
            go_roundw
            case rel =>
              have hgl := HROW.out.lt
              exact ⟨j + 1, by go_num, by omega, put_kept (gtrans HKR.out HK7.out) (by rw [HWS.out]; exact Nat.le_refl _), put_row HR7.out, Items.put (HIT.out.keep (HK7.out.holds _)) HR7.out (by omega) HQ.out (MarkAt.mono (fun _ _ _ _ h => h) (fun d hd => Nat.lt_of_lt_of_le hgl hd) _ _ _ HM7.out) rfl rfl rfl rfl rfl⟩
            case measure => simp [intOf]; omega
        · have hjl : j = L.length := by omega
          rw [hjl] at HIT
          obtain ⟨y0, y1, y2, y3, y4, y5, ⟨k0, k1, k2, k3, k4, k5⟩, f0, f1, f2, f3, f4, f5⟩ := HROW.out.at (j := L.length) (by omega)
          go_upto_region 10 with fail
          obtain ⟨W9, hW9⟩ : ∃ W9, ((((((wr.setCell ⟨g, L.length * 6, none⟩ (.int .i64 93)).setCell ⟨g, L.length * 6 + 1, none⟩ (.int .i64 0)).setCell ⟨g, L.length * 6 + 2, none⟩ (.int .i64 0)).setCell ⟨g, L.length * 6 + 3, none⟩ (.int .i64 0)).setCell ⟨g, L.length * 6 + 4, none⟩ (.int .i64 0)).setCell ⟨g, L.length * 6 + 5, none⟩ (.slice none 0 0)) = W9 := ⟨_, rfl⟩
          have hk9 : Kept W W9 := by rw [← hW9]; exact put_kept HKR.out (by rw [HWS.out]; exact Nat.le_refl _)
          have hm9 : MarkAt (fun d => g ≤ d) W9 (n + 1) L (.slice (some ⟨g, 0, none⟩) L.length (L.length + 1)) := by
            refine Or.inr ⟨fun e => HP0.out (by rw [e]; rfl), g, rfl, by omega, Nat.le_refl _, ?_, fun i q hq => ?_⟩
            · rw [← hW9]; exact (put_cells HROW.out (by omega)).1
            · obtain ⟨v', g0, g1, g2, g3, g4, g5, g6⟩ := HIT.out i q (List.getElem?_eq_some_iff.1 hq).1 hq
              have hi := (List.getElem?_eq_some_iff.1 hq).1
              rw [← hW9]
              exact ⟨v', (put_other (.inr (by omega))).trans g0, (put_other (.inr (by omega))).trans g1, (put_other (.inr (by omega))).trans g2, (put_other (.inr (by omega))).trans g3, (put_other (.inr (by omega))).trans g4, (put_other (.inr (by omega))).trans g5, MarkAt.mono (fun b o v hb hc => (put_other (.inl (by have : g < b := hb; omega))).trans hc) (fun d hd => Nat.le_of_lt hd) _ _ _ g6⟩
          rw [hW9]
          have HK9 := hide1 hk9
          have HM9 := hide1 hm9
          clear hW9 hm9 k0 k1 k2 k3 k4 k5 f0 f1 f2 f3 f4 f5 c5
          have c5 := (HB0.out.keep hk9).facts.1.2.2.2.2.2
          have HX1 := hide1 (HB1.out.keep hk9)
          obtain ⟨⟨b0, b1, b2, b3, b4, b5⟩, z0, z1, z2, z3, z4, z5⟩ := (HB2.out.keep hk9).facts
          clear hk9
          go_upto_region 11 with fail
          obtain ⟨W10, hW10⟩ : ∃ W10, W9.setCell ⟨w.heap.size + 1 + 1, 5, none⟩ (.slice (some ⟨g, 0, none⟩) L.length (L.length + 1)) = W10 := ⟨_, rfl⟩
          have hx2 : BoxAt W10 (w.heap.size + 1 + 1) (.int .i64 (kind p)) (.int .i64 (from_ p)) (.int .i64 (to_ p)) (.int .i64 (min_ p)) (.int .i64 (max_ p)) (.slice (some ⟨g, 0, none⟩) L.length (L.length + 1)) := by rw [← hW10]; exact (HB2.out.keep HK9.out).set5 _
          have hx1 : BoxAt W10 (w.heap.size + 1) (.int .i64 0) (.int .i64 0) (.int .i64 0) (.int .i64 0) (.int .i64 0) (.slice none 0 0) := by rw [← hW10]; exact (Below.heap_setCell W9 _ _ _ (by show w.heap.size + 1 ≠ w.heap.size + 1 + 1; omega)).trans HX1.out
          have hm10 : MarkAt (fun d => g ≤ d) W10 (n + 1) L (.slice (some ⟨g, 0, none⟩) L.length (L.length + 1)) := by
            rw [← hW10]
            exact MarkAt.mono (fun b o v hb hc => (set_other (.inl (by have : g ≤ b := hb; have := HG.out; omega))).trans hc) (fun _ h => h) _ _ _ HM9.out
          have hk10 : Kept w W10 := by rw [← hW10]; exact keep_set (gtrans HWK.out HK9.out) (by omega)
          rw [hW10]
          have HX1 := hide1 hx1
          have HM10 := hide1 hm10
          have HK10 := hide1 hk10
          clear hW10 hm10 hk10 b0 b1 b2 b3 b4 b5 z0 z1 z2 z3 z4 z5 c5
          obtain ⟨⟨b0, b1, b2, b3, b4, b5⟩, _⟩ := hx2.facts
          obtain ⟨⟨d0, d1, d2, d3, d4, d5⟩, s0, s1, s2, s3, s4, s5⟩ := hx1.facts
          clear hx1 hx2
          go_wp2_with fail
          refine bodyPost_ret (box_returns rfl _ _ (w.heap.size + 1) _ _ _ _ _ _ rfl (BoxAt.set HX1.out)) rfl ?_
          refine ⟨⟨_, rfl, MarkAt.mono (set6_holds (S := fun d => g ≤ d) (by show ¬ g ≤ _; have := HG.out; omega)) (fun d hd => by have : g ≤ d := hd; have := HG.out; omega) _ _ _ HM10.out⟩, put_kept (o := 0) HK10.out (by omega)⟩

end Ex
end Go.Proofs.YtooelfjceehmmaaDoor
