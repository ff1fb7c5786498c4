import Derived.Test.YtooelfjceehmmaaDoorMSpCl
import Derived.Test.YtooelfjceehmmaaDoorMExSize
import Derived.Laws.MakeOwn
import Derived.Deep.Cut
import Derived.Test.YtooelfjceehmmaaDoorMSpSz2
import Derived.Deep.RegionHeld3
import Derived.Laws.CopyRow
namespace Go.Proofs.YtooelfjceehmmaaDoor
open Go.RowKit
attribute [local go_sem] Oper.semAt_some
namespace Ex

theorem sizes_mem {n : Nat} {q : PatN n} : ∀ {L : List (PatN n)}, q ∈ L → sizeP n q ≤ sizesP n L
  | x :: L, h => by
    have h1 := sizes_pos n L
    have h2 := size_pos n x
    show sizeP n q ≤ sizeP n x + sizesP n L
    rcases List.mem_cons.1 h with rfl | h
    · omega
    · have := sizes_mem h; omega
  | [], h => by cases h
/-- The cells of a new row. -/
def rowZ (M : Nat) : Array Value := madeCells (Value.agg #[.int .i64 0, .int .i64 0, .int .i64 0, .int .i64 0, .int .i64 0, .slice none 0 0]).cells (M * 6)
theorem run_row (n : Nat) (hn : n ≤ 100000) (w : World) : (Instr.makeSlice 85 (.int .i64 ((n : Int) + 1)) (.int .i64 ((n : Int) + 1))).run Tryd.prog w = .ok (.slice (some ⟨w.heap.size, 0, none⟩) (n + 1) (n + 1)) (w.alloc (.cells (rowZ (n + 1)) 87)) := by
  obtain ⟨i0, hi, hz0, hz1, hz2⟩ := info_parts expr_info
  rw [run_make (P := Tryd.prog) w 85 87 i0 _ Tryd.underlying85 hi hz0 .i64 .i64 ((n : Int) + 1) ((n : Int) + 1) (by omega) (Int.le_refl _) (by rw [hz2]; omega) (by omega), hz1]
  rfl
theorem row_new (w : World) (M : Nat) : RowAt (w.alloc (.cells (rowZ M) 87)) w.heap.size M := ⟨rowZ M, heap_alloc_new w _, size_madeCells _ _⟩
/-- The copies that are made. -/
def Items (w : World) (g : Nat) {n : Nat} (L : List (PatN (n + 1))) (j : Nat) : Prop :=
  ∀ (i : Nat) (q : PatN (n + 1)), i < j → L[i]? = some q → ∃ v',
      w.cell? ⟨g, i * 6, none⟩ = some (.int .i64 (kind q)) ∧ w.cell? ⟨g, i * 6 + 1, none⟩ = some (.int .i64 (from_ q)) ∧ w.cell? ⟨g, i * 6 + 2, none⟩ = some (.int .i64 (to_ q)) ∧
      w.cell? ⟨g, i * 6 + 3, none⟩ = some (.int .i64 (min_ q)) ∧ w.cell? ⟨g, i * 6 + 4, none⟩ = some (.int .i64 (max_ q)) ∧ w.cell? ⟨g, i * 6 + 5, none⟩ = some v' ∧ MarkAt (fun d => g < d) w n (kids q) v'
theorem Items.keep {w w' : World} {g n j : Nat} {L : List (PatN (n + 1))} (h : Items w g L j) (hk : Holds (fun d => g ≤ d) w w') : Items w' g L j := fun i q hi hq => by
  obtain ⟨v', g0, g1, g2, g3, g4, g5, g6⟩ := h i q hi hq
  exact ⟨v', hk _ _ _ (Nat.le_refl _) g0, hk _ _ _ (Nat.le_refl _) g1, hk _ _ _ (Nat.le_refl _) g2, hk _ _ _ (Nat.le_refl _) g3, hk _ _ _ (Nat.le_refl _) g4, hk _ _ _ (Nat.le_refl _) g5, MarkAt.mono (fun b o v hb hc => hk b o v (Nat.le_of_lt hb) hc) (fun _ h => h) _ _ _ g6⟩
theorem Items.put {w : World} {g n j M : Nat} {L : List (PatN (n + 1))} {q : PatN (n + 1)} {u x0 x1 x2 x3 x4 : Value} (h : Items w g L j) (hr : RowAt w g M) (hj : j + 1 ≤ M) (hq : L[j]? = some q) (hm : MarkAt (fun d => g < d) w n (kids q) u)
    (e0 : x0 = .int .i64 (kind q)) (e1 : x1 = .int .i64 (from_ q)) (e2 : x2 = .int .i64 (to_ q)) (e3 : x3 = .int .i64 (min_ q)) (e4 : x4 = .int .i64 (max_ q)) :
    Items ((((((w.setCell ⟨g, j * 6, none⟩ x0).setCell ⟨g, j * 6 + 1, none⟩ x1).setCell ⟨g, j * 6 + 2, none⟩ x2).setCell ⟨g, j * 6 + 3, none⟩ x3).setCell ⟨g, j * 6 + 4, none⟩ x4).setCell ⟨g, j * 6 + 5, none⟩ u) g L (j + 1) := by
  intro i q' hi hq'
  have hmono : ∀ (l : List (PatN n)) (v : Value), MarkAt (fun d => g < d) w n l v → MarkAt (fun d => g < d) ((((((w.setCell ⟨g, j * 6, none⟩ x0).setCell ⟨g, j * 6 + 1, none⟩ x1).setCell ⟨g, j * 6 + 2, none⟩ x2).setCell ⟨g, j * 6 + 3, none⟩ x3).setCell ⟨g, j * 6 + 4, none⟩ x4).setCell ⟨g, j * 6 + 5, none⟩ u) n l v :=
    fun l v hv => MarkAt.mono (fun b o v hb hc => (put_other (.inl (by have : g < b := hb; omega))).trans hc) (fun _ h => h) _ _ _ hv
  by_cases hij : i = j
  · subst hij
    obtain rfl : q = q' := Option.some.inj (hq.symm.trans hq')
    subst e0 e1 e2 e3 e4
    obtain ⟨g0, g1, g2, g3, g4, g5⟩ := put_cells (o := i * 6) (x0 := .int .i64 (kind q)) (x1 := .int .i64 (from_ q)) (x2 := .int .i64 (to_ q)) (x3 := .int .i64 (min_ q)) (x4 := .int .i64 (max_ q)) (x5 := u) hr (by omega)
    exact ⟨u, g0, g1, g2, g3, g4, g5, hmono _ _ hm⟩
  · obtain ⟨v', g0, g1, g2, g3, g4, g5, g6⟩ := h i q' (by omega) hq'
    exact ⟨v', (put_other (.inr (by omega))).trans g0, (put_other (.inr (by omega))).trans g1, (put_other (.inr (by omega))).trans g2, (put_other (.inr (by omega))).trans g3, (put_other (.inr (by omega))).trans g4, (put_other (.inr (by omega))).trans g5, hmono _ _ g6⟩
theorem two_new (w : World) (o : Obj) (x0 x1 x2 x3 x4 x5 : Value) : BoxAt ((w.alloc o).alloc (.cells #[x0, x1, x2, x3, x4, x5] 87)) (w.heap.size + 1) x0 x1 x2 x3 x4 x5 := by
  have h := BoxAt.new (w.alloc o) x0 x1 x2 x3 x4 x5
  rwa [World.size_alloc] at h
theorem three_new (w : World) (o : Obj) (x0 x1 x2 x3 x4 x5 : Value) (c : Array Value) (t : TypeId) : BoxAt (((w.alloc o).alloc (.cells #[x0, x1, x2, x3, x4, x5] 87)).alloc (.cells c t)) (w.heap.size + 1) x0 x1 x2 x3 x4 x5 := (two_new w o x0 x1 x2 x3 x4 x5).keep ((Kept.refl _).alloc _ _)
theorem BoxAt.set5 {w : World} {g : Nat} {x0 x1 x2 x3 x4 x5 : Value} (h : BoxAt w g x0 x1 x2 x3 x4 x5) (y : Value) : BoxAt (w.setCell ⟨g, 5, none⟩ y) g x0 x1 x2 x3 x4 y := by
  have hl : g < w.heap.size := (Array.getElem?_eq_some_iff.1 h).1
  have he : w.heap[g] = Obj.cells #[x0, x1, x2, x3, x4, x5] 87 (0, 0) := by have h' := h; unfold BoxAt at h'; rw [Array.getElem?_eq_getElem hl] at h'; exact Option.some.inj h'
  show (w.setCell ⟨g, 5, none⟩ y).heap[g]? = _
  simp [World.setCell, Array.getElem_modify, hl, he]
/-- twin between two rounds; W: the world ahead of the row. -/
def TwR (W : World) (g : Nat) {n : Nat} (L : List (PatN (n + 1))) (iv : Value) (wr : World) : Prop :=
  ∃ j : Nat, iv = .int .i64 (j : Int) ∧ j ≤ L.length ∧ Kept W wr ∧ RowAt wr g (L.length + 1) ∧ Items wr g L j

set_option linter.unusedSimpArgs false in
set_option maxRecDepth 100000 in
set_option maxHeartbeats 4000000 in
theorem twin_is (S : Nat → Prop) : ∀ (n : Nat) (p : PatN (n + 1)) (v : Value) (w : World), KidsAt S w n (kids p) v → sizeP (n + 1) p ≤ 4096 →
    Calls Tryd.prog 65 #[valOf p v] w fun e w' => Hid (∃ v2, e = .returned (valOf p v2) ∧ MarkAt (fun d => w.heap.size ≤ d) w' n (kids p) v2) ∧ Kept w w' := by
  intro n
  induction n with
  | zero =>
    intro p v w h _
    obtain ⟨a, cap, rfl⟩ := h.form
    rw [valOf_eq]
    rw [none_of (kids p)]
    clear h
    go_enter Tryd.func65, Tryd.ntmps65
    go_wp2_with fail
    refine bodyPost_ret (box_returns rfl _ _ (w.heap.size + 1) (.int .i64 (kind p)) (.int .i64 (from_ p)) (.int .i64 (to_ p)) (.int .i64 (min_ p)) (.int .i64 (max_ p)) (.slice none 0 0) rfl ?_) rfl ?_
    · exact three_new w _ _ _ _ _ _ _ _ _
    · exact ⟨⟨_, rfl, rfl⟩, (((Kept.refl w).alloc _ _).alloc _ _).alloc _ _⟩
  | succ n ih =>
    intro p v w h hsz
    have IH := hide1 ih
    have HK := hide1 h
    obtain ⟨a, cap, rfl⟩ := h.form
    obtain ⟨_, _, e1, hl1, hl2, h4z⟩ := h
    clear h4z
    simp only [Value.slice.injEq] at e1
    obtain ⟨rfl, _, rfl⟩ := e1
    rw [size_succ] at hsz
    have hln := sizes_len (kids p)
    rw [valOf_eq]
    have HV : Hid (∀ u, valOf p u = .agg #[.int .i64 (kind p), .int .i64 (from_ p), .int .i64 (to_ p), .int .i64 (min_ p), .int .i64 (max_ p), u]) := fun u => rfl
    obtain ⟨L, hL⟩ : ∃ L, kids p = L := ⟨_, rfl⟩
    rw [hL] at HK hl1 hl2 hsz hln ⊢
    have HSQ : Hid (∀ q ∈ L, sizeP (n + 1) q ≤ 4096) := fun q hq => by have := sizes_mem hq; omega
    have gl : (L.length : Int) ≤ 4095 := by omega
    have gc : (L.length : Int) ≤ (cap : Int) := by omega
    clear ih hsz hln hL hl1 hl2
    by_cases h0 : L.length = 0
    · have hz : L = [] := List.length_eq_zero_iff.1 h0
      subst hz
      clear h0
      go_enter Tryd.func65, Tryd.ntmps65
      go_wp2_with fail
      refine bodyPost_ret (box_returns rfl _ _ (w.heap.size + 1) (.int .i64 (kind p)) (.int .i64 (from_ p)) (.int .i64 (to_ p)) (.int .i64 (min_ p)) (.int .i64 (max_ p)) (.slice none 0 0) rfl ?_) rfl ?_
      · exact three_new w _ _ _ _ _ _ _ _ _
      · exact ⟨⟨_, rfl, Or.inl ⟨rfl, rfl⟩⟩, (((Kept.refl w).alloc _ _).alloc _ _).alloc _ _⟩
    · have hp0 : (0 : Int) < (L.length : Int) := by omega
      have HP0 := hide1 h0
      clear h0
      go_enter Tryd.func65, Tryd.ntmps65
      have hmk := run_row L.length (by omega)
      go_wp2_with fail
      obtain ⟨W, hW⟩ : ∃ W, ((w.alloc (.cells #[.int .i64 (kind p), .int .i64 (from_ p), .int .i64 (to_ p), .int .i64 (min_ p), .int .i64 (max_ p), .slice a L.length cap] 87)).alloc (.cells #[.int .i64 0, .int .i64 0, .int .i64 0, .int .i64 0, .int .i64 0, .slice none 0 0] 87)).alloc (.cells #[.int .i64 (kind p), .int .i64 (from_ p), .int .i64 (to_ p), .int .i64 (min_ p), .int .i64 (max_ p), .slice none 0 0] 87) = W := ⟨_, rfl⟩
      have hb0 : BoxAt W w.heap.size (.int .i64 (kind p)) (.int .i64 (from_ p)) (.int .i64 (to_ p)) (.int .i64 (min_ p)) (.int .i64 (max_ p)) (.slice a L.length cap) := by rw [← hW]; exact (BoxAt.new w _ _ _ _ _ _).keep (((Kept.refl _).alloc _ _).alloc _ _)
      have hb1 : BoxAt W (w.heap.size + 1) (.int .i64 0) (.int .i64 0) (.int .i64 0) (.int .i64 0) (.int .i64 0) (.slice none 0 0) := by rw [← hW]; exact three_new w _ _ _ _ _ _ _ _ _
      have hb2 : BoxAt W (w.heap.size + 1 + 1) (.int .i64 (kind p)) (.int .i64 (from_ p)) (.int .i64 (to_ p)) (.int .i64 (min_ p)) (.int .i64 (max_ p)) (.slice none 0 0) := by
        have h := two_new (w.alloc (.cells #[.int .i64 (kind p), .int .i64 (from_ p), .int .i64 (to_ p), .int .i64 (min_ p), .int .i64 (max_ p), .slice a L.length cap] 87)) (.cells #[.int .i64 0, .int .i64 0, .int .i64 0, .int .i64 0, .int .i64 0, .slice none 0 0] 87) (.int .i64 (kind p)) (.int .i64 (from_ p)) (.int .i64 (to_ p)) (.int .i64 (min_ p)) (.int .i64 (max_ p)) (.slice none 0 0)
        rw [World.size_alloc, hW] at h
        exact h
      have hwk : Kept w W := by rw [← hW]; exact (((Kept.refl w).alloc _ _).alloc _ _).alloc _ _
      have hws : W.heap.size = w.heap.size + 1 + 1 + 1 := by rw [← hW]; simp
      have hdc : decide (0 < L.length) = true := decide_eq_true (by omega)
      rw [hW, hdc]
      clear hdc
      obtain ⟨g, hg⟩ : ∃ g, w.heap.size + 1 + 1 + 1 = g := ⟨_, rfl⟩
      rw [hg] at hws ⊢
      have HB0 := hide1 hb0
      have HB1 := hide1 hb1
      have HB2 := hide1 hb2
      have HWK := hide1 hwk
      have HWS := hide1 hws
      have HG := hide1 hg
      clear hb0 hb1 hb2 hwk hW hmk hg
      go_loopw [5] (fun iv wr => TwR W g L iv wr) (fun iv _ => L.length - (intOf iv).toNat)
      case atStart =>
        refine ⟨0, rfl, Nat.zero_le _, (Kept.refl W).alloc _ _, ?_, fun i q hi _ => by omega⟩
        have := row_new W (L.length + 1)
        rwa [hws] at this
      case round =>
        clear hws
        obtain ⟨j, rfl, hj, hkr, hrow, hit⟩ := hrel
        have HKR := hide1 hkr
        have HROW := hide1 hrow
        have HIT := hide1 hit
        have c5 := (HB0.out.keep hkr).facts.1.2.2.2.2.2
        clear hkr hrow hit
        by_cases hlt : (j : Int) < (L.length : Int)
        · obtain ⟨q, hq⟩ : ∃ q, L[j]? = some q := ⟨_, List.getElem?_eq_getElem (by omega)⟩
          obtain ⟨a5, cap5, e2, _, _, h4⟩ := HK.out.kept (gtrans HWK.out HKR.out)
          simp only [Value.slice.injEq] at e2
          obtain ⟨rfl, _, rfl⟩ := e2
          rcases h4 with h4 | ⟨cb, o, rfl, hSc, h7⟩
          · rw [h4] at hq; simp at hq
          · obtain ⟨v', g0, g1, g2, g3, g4, g5, g6⟩ := h7 j q hq
            obtain ⟨a3, cap3, rfl⟩ := g6.form
            have HG6 := hide1 g6
            have HQ := hide1 hq
            have HQS := hide1 (HSQ.out q (List.mem_of_getElem? hq))
            clear h7 g6 hq
            go_wp2_with (go_at_call 65; refine (IH.out q _ _ HG6.out HQS.out).mono ?_; rintro e w7 ⟨h7, hk7⟩; obtain ⟨v7, rfl, hm7⟩ := h7.out; rw [valOf_eq]; obtain ⟨a7, c7, e7⟩ := hm7.form; subst e7; have HM7 := hide1 hm7; have HK7 := hide1 hk7; have HR7 := hide1 (HROW.out.keep hk7); obtain ⟨y0, y1, y2, y3, y4, y5, ⟨k0, k1, k2, k3, k4, k5⟩, f0, f1, f2, f3, f4, f5⟩ := HR7.out.at (j := j) (by omega); clear h7 hm7 hk7)
            clear k0 k1 k2 k3 k4 k5 f0 f1 f2 f3 f4 f5 g0 g1 g2 g3 g4 g5 c5
            go_roundw
            case rel =>
              have hgl := HROW.out.lt
              exact ⟨j + 1, by go_num, by omega, put_kept (gtrans HKR.out HK7.out) (by rw [HWS.out]; exact Nat.le_refl _), put_row HR7.out, Items.put (HIT.out.keep (HK7.out.holds _)) HR7.out (by omega) HQ.out (MarkAt.mono (fun _ _ _ _ h => h) (fun d hd => Nat.lt_of_lt_of_le hgl hd) _ _ _ HM7.out) rfl rfl rfl rfl rfl⟩
            case measure => simp [intOf]; omega
        · have hjl : j = L.length := by omega
          rw [hjl] at HIT
          obtain ⟨y0, y1, y2, y3, y4, y5, ⟨k0, k1, k2, k3, k4, k5⟩, f0, f1, f2, f3, f4, f5⟩ := HROW.out.at (j := L.length) (by omega)
          go_upto_region 10 with fail
          obtain ⟨W9, hW9⟩ : ∃ W9, ((((((wr.setCell ⟨g, L.length * 6, none⟩ (.int .i64 93)).setCell ⟨g, L.length * 6 + 1, none⟩ (.int .i64 0)).setCell ⟨g, L.length * 6 + 2, none⟩ (.int .i64 0)).setCell ⟨g, L.length * 6 + 3, none⟩ (.int .i64 0)).setCell ⟨g, L.length * 6 + 4, none⟩ (.int .i64 0)).setCell ⟨g, L.length * 6 + 5, none⟩ (.slice none 0 0)) = W9 := ⟨_, rfl⟩
          have hk9 : Kept W W9 := by rw [← hW9]; exact put_kept HKR.out (by rw [HWS.out]; exact Nat.le_refl _)
          have hm9 : MarkAt (fun d => g ≤ d) W9 (n + 1) L (.slice (some ⟨g, 0, none⟩) L.length (L.length + 1)) := by
            refine Or.inr ⟨fun e => HP0.out (by rw [e]; rfl), g, rfl, by omega, Nat.le_refl _, ?_, fun i q hq => ?_⟩
            · rw [← hW9]; exact (put_cells HROW.out (by omega)).1
            · obtain ⟨v', g0, g1, g2, g3, g4, g5, g6⟩ := HIT.out i q (List.getElem?_eq_some_iff.1 hq).1 hq
              have hi := (List.getElem?_eq_some_iff.1 hq).1
              rw [← hW9]
              exact ⟨v', (put_other (.inr (by omega))).trans g0, (put_other (.inr (by omega))).trans g1, (put_other (.inr (by omega))).trans g2, (put_other (.inr (by omega))).trans g3, (put_other (.inr (by omega))).trans g4, (put_other (.inr (by omega))).trans g5, MarkAt.mono (fun b o v hb hc => (put_other (.inl (by have : g < b := hb; omega))).trans hc) (fun d hd => Nat.le_of_lt hd) _ _ _ g6⟩
          rw [hW9]
          have HK9 := hide1 hk9
          have HM9 := hide1 hm9
          clear hW9 hm9 k0 k1 k2 k3 k4 k5 f0 f1 f2 f3 f4 f5 c5
          have c5 := (HB0.out.keep hk9).facts.1.2.2.2.2.2
          have HX1 := hide1 (HB1.out.keep hk9)
          obtain ⟨⟨b0, b1, b2, b3, b4, b5⟩, z0, z1, z2, z3, z4, z5⟩ := (HB2.out.keep hk9).facts
          clear hk9
          go_upto_region 11 with fail
          obtain ⟨W10, hW10⟩ : ∃ W10, W9.setCell ⟨w.heap.size + 1 + 1, 5, none⟩ (.slice (some ⟨g, 0, none⟩) L.length (L.length + 1)) = W10 := ⟨_, rfl⟩
          have hx2 : BoxAt W10 (w.heap.size + 1 + 1) (.int .i64 (kind p)) (.int .i64 (from_ p)) (.int .i64 (to_ p)) (.int .i64 (min_ p)) (.int .i64 (max_ p)) (.slice (some ⟨g, 0, none⟩) L.length (L.length + 1)) := by rw [← hW10]; exact (HB2.out.keep HK9.out).set5 _
          have hx1 : BoxAt W10 (w.heap.size + 1) (.int .i64 0) (.int .i64 0) (.int .i64 0) (.int .i64 0) (.int .i64 0) (.slice none 0 0) := by rw [← hW10]; exact (Below.heap_setCell W9 _ _ _ (by show w.heap.size + 1 ≠ w.heap.size + 1 + 1; omega)).trans HX1.out
          have hm10 : MarkAt (fun d => g ≤ d) W10 (n + 1) L (.slice (some ⟨g, 0, none⟩) L.length (L.length + 1)) := by
            rw [← hW10]
            exact MarkAt.mono (fun b o v hb hc => (set_other (.inl (by have : g ≤ b := hb; have := HG.out; omega))).trans hc) (fun _ h => h) _ _ _ HM9.out
          have hk10 : Kept w W10 := by rw [← hW10]; exact keep_set (gtrans HWK.out HK9.out) (by omega)
          rw [hW10]
          have HX1 := hide1 hx1
          have HM10 := hide1 hm10
          have HK10 := hide1 hk10
          clear hW10 hm10 hk10 b0 b1 b2 b3 b4 b5 z0 z1 z2 z3 z4 z5 c5
          obtain ⟨⟨b0, b1, b2, b3, b4, b5⟩, _⟩ := hx2.facts
          obtain ⟨⟨d0, d1, d2, d3, d4, d5⟩, s0, s1, s2, s3, s4, s5⟩ := hx1.facts
          clear hx1 hx2
          go_wp2_with fail
          refine bodyPost_ret (box_returns rfl _ _ (w.heap.size + 1) _ _ _ _ _ _ rfl (BoxAt.set HX1.out)) rfl ?_
          refine ⟨⟨_, rfl, MarkAt.mono (set6_holds (S := fun d => g ≤ d) (by show ¬ g ≤ _; have := HG.out; omega)) (fun d hd => by have : g ≤ d := hd; have := HG.out; omega) _ _ _ HM10.out⟩, put_kept (o := 0) HK10.out (by omega)⟩

end Ex
end Go.Proofs.YtooelfjceehmmaaDoor
namespace Go.Proofs.YtooelfjceehmmaaDoor
open Go.RowKit
attribute [local go_sem] Oper.semAt_some
namespace Ex

set_option linter.unusedSimpArgs false in
set_option maxRecDepth 100000 in
set_option maxHeartbeats 4000000 in
theorem Flat_is (S : Nat → Prop) (n : Nat) (p : PatN (n + 1)) (v : Value) (w : World) (h : KidsAt S w n (kids p) v) :
    Calls Tryd.prog 64 #[valOf p v] w fun e w' => e = .returned (.bool (boundsP p == 0)) ∧ Kept w w' := by
  have HK := hide1 h
  obtain ⟨a, cap, rfl⟩ := h.form
  rw [valOf_eq]
  clear h
  obtain ⟨bo, hbo⟩ : ∃ x, boundsP p = x := ⟨_, rfl⟩
  have HBO := hide1 hbo
  rw [hbo]
  clear hbo
  go_enter Tryd.func64, Tryd.ntmps64
  go_wp2_with (go_at_call 87; refine (Guard_is S n p _ _ (HK.out.kept ((Kept.refl w).alloc _ _))).mono ?_; rintro e w6 ⟨rfl, hk6⟩; rw [HBO.out]; have HK6 := hide1 (gtrans ((Kept.refl w).alloc _ _) hk6); clear hk6)
  go_ret
  exact ⟨rfl, HK6.out⟩
theorem bounds_size {n : Nat} {p : PatN (n + 1)} (h : boundsP p = 0) : sizeP (n + 1) p ≤ 4096 := by
  rw [bounds_eq] at h
  split at h
  · omega
  · omega

set_option linter.unusedSimpArgs false in
set_option maxRecDepth 100000 in
set_option maxHeartbeats 4000000 in
theorem TwinExpr_is (S : Nat → Prop) (n : Nat) (p : PatN (n + 1)) (v : Value) (w : World) (h : KidsAt S w n (kids p) v) :
    Calls Tryd.prog 33 #[valOf p v] w fun e w' => Hid (∃ v2, e = .returned (valOf p v2) ∧ KidsAt (fun d => S d ∨ w.heap.size ≤ d) w' n (kids p) v2 ∧ (boundsP p = 0 → MarkAt (fun d => w.heap.size ≤ d) w' n (kids p) v2)) ∧ Kept w w' := by
  have HK := hide1 h
  obtain ⟨a, cap, rfl⟩ := h.form
  rw [valOf_eq]
  clear h
  obtain ⟨W, hW⟩ : ∃ W, (w.alloc (.cells #[.int .i64 (kind p), .int .i64 (from_ p), .int .i64 (to_ p), .int .i64 (min_ p), .int .i64 (max_ p), .slice a (kids p).length cap] 87)).alloc (.cells #[.int .i64 0, .int .i64 0, .int .i64 0, .int .i64 0, .int .i64 0, .slice none 0 0] 87) = W := ⟨_, rfl⟩
  have HB0 : Hid (BoxAt W w.heap.size (.int .i64 (kind p)) (.int .i64 (from_ p)) (.int .i64 (to_ p)) (.int .i64 (min_ p)) (.int .i64 (max_ p)) (.slice a (kids p).length cap)) := by rw [← hW]; exact (BoxAt.new w _ _ _ _ _ _).keep ((Kept.refl _).alloc _ _)
  have HB1 : Hid (BoxAt W (w.heap.size + 1) (.int .i64 0) (.int .i64 0) (.int .i64 0) (.int .i64 0) (.int .i64 0) (.slice none 0 0)) := by rw [← hW]; exact two_new w _ _ _ _ _ _ _
  have HWK : Hid (Kept w W) := by rw [← hW]; exact ((Kept.refl w).alloc _ _).alloc _ _
  have HW := hide1 hW
  clear hW
  go_enter Tryd.func33, Tryd.ntmps33
  by_cases hb : boundsP p = 0
  · have eb : (boundsP p == 0) = true := by simpa using hb
    have HBS := hide1 (bounds_size hb)
    clear hb
    go_wp2_with (go_at_call 64; rw [HW.out]; refine (Flat_is S n p _ _ (HK.out.kept HWK.out)).mono ?_; rintro e w6 ⟨rfl, hk6⟩; have HK6 := hide1 hk6; obtain ⟨⟨d0, d1, d2, d3, d4, d5⟩, _⟩ := (HB0.out.keep hk6).facts; obtain ⟨⟨t0, t1, t2, t3, t4, t5⟩, s0, s1, s2, s3, s4, s5⟩ := (HB1.out.keep hk6).facts; clear hk6)
    refine (twin_is S n p _ _ (HK.out.kept (gtrans HWK.out HK6.out)) HBS.out).mono ?_
    rintro e w7 ⟨h7, hk7⟩
    obtain ⟨v7, rfl, hm7⟩ := h7.out
    rw [valOf_eq]
    obtain ⟨a7, c7, e7⟩ := hm7.form
    subst e7
    have HM7 := hide1 hm7
    have HK7 := hide1 (gtrans HWK.out (gtrans HK6.out hk7))
    have HX1 := hide1 (HB1.out.keep (gtrans HK6.out hk7))
    have HL := hide1 (HB1.out.keep HK6.out).lt
    clear h7 hm7 hk7 d0 d1 d2 d3 d4 d5 t0 t1 t2 t3 t4 t5 s0 s1 s2 s3 s4 s5
    obtain ⟨⟨t0, t1, t2, t3, t4, t5⟩, s0, s1, s2, s3, s4, s5⟩ := HX1.out.facts
    go_wp2_with fail
    refine bodyPost_ret (box_returns rfl _ _ (w.heap.size + 1) _ _ _ _ _ _ rfl (BoxAt.set HX1.out)) rfl ?_
    have hmk := MarkAt.mono (set6_holds (W := w7) (g := w.heap.size + 1) (x0 := .int .i64 (kind p)) (x1 := .int .i64 (from_ p)) (x2 := .int .i64 (to_ p)) (x3 := .int .i64 (min_ p)) (x4 := .int .i64 (max_ p)) (x5 := .slice a7 (kids p).length c7) (S := fun d => w6.heap.size ≤ d) (by show ¬ w6.heap.size ≤ _; have := HL.out; omega)) (fun d hd => (by have : w6.heap.size ≤ d := hd; have := HL.out; omega : w.heap.size ≤ d)) _ _ _ HM7.out
    exact ⟨⟨_, rfl, KidsAt.mono (fun _ _ _ _ h => h) (fun d hd => Or.inr hd) _ _ _ (MarkAt.kids _ _ _ hmk), fun _ => hmk⟩, put_kept (o := 0) HK7.out (by omega)⟩
  · have eb : (boundsP p == 0) = false := by simpa using hb
    have HNB := hide1 hb
    clear hb
    go_wp2_with (go_at_call 64; rw [HW.out]; refine (Flat_is S n p _ _ (HK.out.kept HWK.out)).mono ?_; rintro e w6 ⟨rfl, hk6⟩; have HK6 := hide1 hk6; obtain ⟨⟨d0, d1, d2, d3, d4, d5⟩, _⟩ := (HB0.out.keep hk6).facts; obtain ⟨⟨t0, t1, t2, t3, t4, t5⟩, s0, s1, s2, s3, s4, s5⟩ := (HB1.out.keep hk6).facts; clear hk6)
    refine bodyPost_ret (box_returns rfl _ _ (w.heap.size + 1) _ _ _ _ _ _ rfl (BoxAt.set (HB1.out.keep HK6.out))) rfl ?_
    have hkw := put_kept (o := 0) (x0 := .int .i64 (kind p)) (x1 := .int .i64 (from_ p)) (x2 := .int .i64 (to_ p)) (x3 := .int .i64 (min_ p)) (x4 := .int .i64 (max_ p)) (x5 := .slice a (kids p).length cap) (g := w.heap.size + 1) (gtrans HWK.out HK6.out) (by omega)
    exact ⟨⟨_, rfl, KidsAt.mono (fun _ _ _ _ h => h) (fun d hd => Or.inl hd) _ _ _ (HK.out.kept hkw), fun e => absurd e HNB.out⟩, hkw⟩

end Ex
end Go.Proofs.YtooelfjceehmmaaDoor
namespace Go.Proofs.YtooelfjceehmmaaDoor
open Go.RowKit
attribute [local go_sem] Oper.semAt_some
namespace Ex

/-- A row of n cells in a block of its own. -/
def RowG (w : World) (g n : Nat) (t : TypeId) : Prop := ∃ cur : Array Value, w.heap[g]? = some (.cells cur t (0, 0)) ∧ cur.size = n
section
variable {w w' : World} {g n : Nat} {t : TypeId}
theorem RowG.lt (h : RowG w g n t) : g < w.heap.size := by obtain ⟨_, h, _⟩ := h; exact (Array.getElem?_eq_some_iff.1 h).1
theorem RowG.keep (h : RowG w g n t) (hk : Kept w w') : RowG w' g n t := by
  obtain ⟨cur, h1, h2⟩ := h
  exact ⟨cur, (hk.2.2.2.2 g (Array.getElem?_eq_some_iff.1 h1).1).trans h1, h2⟩
theorem RowG.set (h : RowG w g n t) (o : Nat) (x : Value) : RowG (w.setCell ⟨g, o, none⟩ x) g n t := by
  obtain ⟨cur, h1, h2⟩ := h
  have hl : g < w.heap.size := (Array.getElem?_eq_some_iff.1 h1).1
  have he : w.heap[g] = Obj.cells cur t (0, 0) := by rw [Array.getElem?_eq_getElem hl] at h1; exact Option.some.inj h1
  refine ⟨cur.set! o x, ?_, by simpa using h2⟩
  simp [World.setCell, Array.getElem_modify, hl, he]
theorem RowG.cell (h : RowG w g n t) {k : Nat} (hk : k < n) : (∃ x, w.cell? ⟨g, k, none⟩ = some x) ∧ w.frozen? ⟨g, k, none⟩ = false := by
  obtain ⟨cur, h1, h2⟩ := h
  refine ⟨⟨cur[k]'(by omega), ?_⟩, ?_⟩
  · simp [World.cell?, h1, h2, hk]
  · simp [World.frozen?, h1]
theorem RowG.same (h : RowG w g n t) {o : Nat} {x : Value} (ho : o < n) : (w.setCell ⟨g, o, none⟩ x).cell? ⟨g, o, none⟩ = some x := by
  obtain ⟨⟨y, hy⟩, _⟩ := h.cell ho
  exact World.cell?_setCell_same w _ _ hy
end
theorem row_alloc (w : World) (cur : Array Value) (t : TypeId) : RowG (w.alloc (.cells cur t)) w.heap.size cur.size t := ⟨cur, heap_alloc_new w _, rfl⟩
/-- make of n + 1 elements. -/
theorem run_rowG {t e : TypeId} (ht : Tryd.prog.underlying t = some (.slice e)) (sz byt : Nat) (hinfo : (Tryd.prog.info? e).map (fun i => (i.zero.isSome, i.size, i.bytes)) = some (true, sz, byt)) (n : Nat) (hn : (byt : Int) * ((n : Int) + 1) ≤ 281474976710656) (h63 : (n : Int) + 1 ≤ 9223372036854775807) (w : World) :
    ∃ cur : Array Value, cur.size = (n + 1) * sz ∧ (Instr.makeSlice t (.int .i64 ((n : Int) + 1)) (.int .i64 ((n : Int) + 1))).run Tryd.prog w = .ok (.slice (some ⟨w.heap.size, 0, none⟩) (n + 1) (n + 1)) (w.alloc (.cells cur e)) := by
  obtain ⟨i, hi, h2⟩ := Option.map_eq_some_iff.1 hinfo
  simp only [Prod.mk.injEq] at h2
  obtain ⟨z, hz⟩ := Option.isSome_iff_exists.1 h2.1
  refine ⟨madeCells z.cells (((n : Int) + 1).toNat * i.size), ?_, ?_⟩
  · rw [size_madeCells, h2.2.1]
    congr 1
  · rw [run_make (P := Tryd.prog) w t e i z ht hi hz .i64 .i64 ((n : Int) + 1) ((n : Int) + 1) (by omega) (Int.le_refl _) (by rw [h2.2.2]; exact hn) h63]
    congr 1
theorem run_copy_n {P : Program} (w : World) (dT sT ty elem : TypeId) (sz g n dLen dCap : Nat) (a : Addr) (sCap : Nat) (cur : Array Value) (t : TypeId) (cs : List Value) (hle : n ≤ dLen)
    (hu : P.underlying dT = some (.slice elem)) (hs : (P.info? elem).map (·.size) = some sz)
    (hg : w.heap[g]? = some (.cells cur t (0, 0))) (hn : cs.length = n * sz)
    (hsrc : ∀ j v, cs[j]? = some v → w.cell? (a.add j) = some v) (hfit : cs.length ≤ cur.size) (h1 : ∀ v ∈ cs, v.oneCell' = true) :
    (Builtin.copy_ #[dT, sT] ty #[.slice (some ⟨g, 0, none⟩) dLen dCap, .slice (some a) n sCap]).run P w =
      .ok (goInt n) (w.setRow g (cs ++ cur.toList.drop cs.length).toArray) := by
  have hl := run_loadCells_list (P := P) w a cs hsrc
  have hst := run_storeCells_at P g 0 t cs 0 cur w hg (by simpa using hfit) h1
  have hmin : Nat.min n dLen = n := Nat.min_eq_left hle
  cases hq : P.info? elem with
  | none => simp [hq] at hs
  | some i =>
    have hi : i.size = sz := by simpa [hq] using hs
    simp [Builtin.copy_, run_underlying hu, Builtin.lenOf, Builtin.firstCells, sizeOf, typeInfo, hq, hi, hmin, ← hn, hl, hst]
theorem run_copy_0 {P : Program} (w : World) (dT sT ty elem : TypeId) (sz : Nat) (d a : Option Addr) (dLen dCap sCap : Nat) (hu : P.underlying dT = some (.slice elem)) (hs : (P.info? elem).map (·.size) = some sz) :
    (Builtin.copy_ #[dT, sT] ty #[.slice d dLen dCap, .slice a 0 sCap]).run P w = .ok (goInt (0 : Nat)) w := by
  cases hq : P.info? elem with
  | none => simp [hq] at hs
  | some i =>
    have hl : ∀ (x : Addr), (loadCells x 0).run P w = .ok #[] w := fun x => by simpa using run_loadCells_list (P := P) w x [] (by simp)
    cases d <;> cases a <;> simp [Builtin.copy_, run_underlying hu, Builtin.lenOf, Builtin.firstCells, sizeOf, typeInfo, hq, storeCells, hl]
/-- Elements in a row from its head on. -/
def ElsAt {α : Type} (w : World) (sz : Nat) (El : List Value → α → Prop) (g : Nat) (xs : List α) : Prop := ∀ (i : Nat) (x : α), xs[i]? = some x → ∃ cs : List Value, cs.length = sz ∧ (∀ (j : Nat) (u : Value), cs[j]? = some u → w.cell? ⟨g, i * sz + j, none⟩ = some u) ∧ El cs x
theorem but_row (w : World) (g : Nat) (cs : Array Value) : KeptBut g w (w.setRow g cs) := ⟨rfl, rfl, rfl, by simp [World.setRow], fun k _ hne => setRow_other w g k cs hne⟩
set_option maxRecDepth 100000 in
/-- copy of a list into a row that is longer. -/
theorem copy_is {α : Type} {w : World} {sz : Nat} {El : List Value → α → Prop} {sp : Option Addr} {sCap : Nat} {xs : List α} {n : Nat} (hxs : xs.length = n) (h : SliceOf w sz El (.slice sp n sCap) xs) (hpos : 0 < sz) (one : ∀ cs x, El cs x → ∀ u ∈ cs, u.oneCell' = true) {dT elem : TypeId} (hu : Tryd.prog.underlying dT = some (.slice elem)) (hs : (Tryd.prog.info? elem).map (·.size) = some sz) {g : Nat} {t : TypeId} (hg : RowG w g ((n + 1) * sz) t) (ty : TypeId) :
    ∃ w', (Builtin.copy_ #[dT, dT] ty #[.slice (some ⟨g, 0, none⟩) (n + 1) (n + 1), .slice sp n sCap]).run Tryd.prog w = .ok (goInt n) w' ∧ RowG w' g ((n + 1) * sz) t ∧ ElsAt w' sz El g xs ∧ KeptBut g w w' := by
  obtain ⟨cur, hc1, hc2⟩ := hg
  by_cases h0 : n = 0
  · subst h0
    obtain rfl : xs = [] := List.length_eq_zero_iff.1 hxs
    exact ⟨w, run_copy_0 w dT dT ty elem sz _ _ _ _ _ hu hs, ⟨cur, hc1, hc2⟩, fun i x hi => by simp at hi, but_refl g w⟩
  · obtain ⟨c, o, hsp, hall⟩ : ∃ c o, sp = some ⟨c, o, none⟩ ∧ ∀ (i : Nat) (x : α), xs[i]? = some x → ∃ cs : List Value, cs.length = sz ∧ (∀ (j : Nat) (u : Value), cs[j]? = some u → w.cell? ⟨c, o + i * sz + j, none⟩ = some u) ∧ El cs x := by
      obtain ⟨a, cap, e, _, _, h4⟩ := h
      injection e with e1 e2 e3
      subst e1
      rcases h4 with h4 | ⟨c, o, h5, _, h7⟩
      · subst h4; simp at hxs; omega
      · exact ⟨c, o, h5, h7⟩
    subst hsp
    have hcell : ∀ q, q < n * sz → ∃ v, w.cell? ⟨c, o + q, none⟩ = some v ∧ v.oneCell' = true := by
      intro q hq
      have hi : q / sz < n := Nat.div_lt_of_lt_mul (by rw [Nat.mul_comm]; exact hq)
      obtain ⟨x, hx⟩ : ∃ x, xs[q / sz]? = some x := ⟨_, List.getElem?_eq_getElem (by omega)⟩
      obtain ⟨cs, g1, g2, g3⟩ := hall _ x hx
      obtain ⟨u, hu2⟩ : ∃ u, cs[q % sz]? = some u := ⟨_, List.getElem?_eq_getElem (by rw [g1]; exact Nat.mod_lt _ hpos)⟩
      have := g2 _ u hu2
      rw [Nat.add_assoc, Nat.div_add_mod' q sz] at this
      exact ⟨u, this, one cs x g3 u (List.mem_of_getElem? hu2)⟩
    obtain ⟨cs, hcs⟩ : ∃ cs : List Value, cs = (List.range (n * sz)).map (fun q => (w.cell? ⟨c, o + q, none⟩).getD (.bool false)) := ⟨_, rfl⟩
    have hlen : cs.length = n * sz := by rw [hcs, List.length_map, List.length_range]
    have hat : ∀ q, q < n * sz → ∃ v, cs[q]? = some v ∧ w.cell? ⟨c, o + q, none⟩ = some v ∧ v.oneCell' = true := by
      intro q hq
      obtain ⟨v, h1, h2⟩ := hcell q hq
      refine ⟨v, ?_, h1, h2⟩
      rw [hcs, List.getElem?_map, List.getElem?_range hq]
      simp [h1]
    have hsize : n * sz ≤ cur.size := by rw [hc2, Nat.succ_mul]; omega
    refine ⟨_, run_copy_n w dT dT ty elem sz g n (n + 1) (n + 1) ⟨c, o, none⟩ sCap cur t cs (by omega) hu hs hc1 hlen (fun j v hj => ?_) (by omega) (fun v hv => ?_), ⟨_, setRow_heap w g cur _ t _ hc1, ?_⟩, ?_, but_row w g _⟩
    · have hj2 := (List.getElem?_eq_some_iff.1 hj).1
      obtain ⟨v2, e1, e2, _⟩ := hat j (by omega)
      rw [hj] at e1
      injection e1 with e1
      subst e1
      rw [Addr.add_lit]
      exact e2
    · obtain ⟨j, hj⟩ := List.getElem?_of_mem hv
      have hj2 := (List.getElem?_eq_some_iff.1 hj).1
      obtain ⟨v2, e1, _, e3⟩ := hat j (by omega)
      rw [hj] at e1
      injection e1 with e1
      subst e1
      exact e3
    · simp [hlen, hc2]
      omega
    · intro i x hi
      obtain ⟨ds, g1, g2, g3⟩ := hall i x hi
      refine ⟨ds, g1, fun j u hj => ?_, g3⟩
      have hj2 := (List.getElem?_eq_some_iff.1 hj).1
      have hi2 := (List.getElem?_eq_some_iff.1 hi).1
      have hq : i * sz + j < n * sz := by
        have : (i + 1) * sz ≤ n * sz := Nat.mul_le_mul_right _ (by omega)
        rw [Nat.succ_mul] at this
        omega
      obtain ⟨v2, e1, e2, _⟩ := hat _ hq
      have h3 := g2 j u hj
      rw [Nat.add_assoc, e2] at h3
      injection h3 with h3
      subst h3
      simp only [World.cell?, setRow_heap w g cur _ t _ hc1]
      rw [List.getElem?_toArray, List.getElem?_append_left (by omega)]
      simpa using e1
theorem ElsAt.keep {α : Type} {w w' : World} {sz g : Nat} {El : List Value → α → Prop} {xs : List α} (h : ElsAt w sz El g xs) (hk : Kept w w') : ElsAt w' sz El g xs := fun i x hi => by
  obtain ⟨cs, h1, h2, h3⟩ := h i x hi
  exact ⟨cs, h1, fun j u hj => grown_cell hk (h2 j u hj), h3⟩
theorem ElsAt.set {α : Type} {w : World} {sz g o : Nat} {v : Value} {El : List Value → α → Prop} {xs : List α} (h : ElsAt w sz El g xs) (ho : xs.length * sz ≤ o) : ElsAt (w.setCell ⟨g, o, none⟩ v) sz El g xs := fun i x hi => by
  obtain ⟨cs, h1, h2, h3⟩ := h i x hi
  refine ⟨cs, h1, fun j u hj => ?_, h3⟩
  have hj2 := (List.getElem?_eq_some_iff.1 hj).1
  have hi2 := (List.getElem?_eq_some_iff.1 hi).1
  have : (i + 1) * sz ≤ xs.length * sz := Nat.mul_le_mul_right _ (by omega)
  rw [Nat.succ_mul] at this
  rw [set_other (by omega)]
  exact h2 j u hj
/-- What lies in memory lies in the heap. -/
theorem kids_in {S : Nat → Prop} {w : World} : ∀ (n : Nat) (l : List (PatN n)) (v : Value), KidsAt S w n l v → KidsAt (fun d => S d ∧ d < w.heap.size) w n l v
  | 0, _, _, h => h
  | n + 1, l, v, ⟨a, cap, h1, h2, h3, h4⟩ => by
    refine ⟨a, cap, h1, h2, h3, ?_⟩
    rcases h4 with h4 | ⟨c, o, h5, h6, h7⟩
    · exact .inl h4
    · by_cases h0 : l = []
      · exact .inl h0
      · have hc : c < w.heap.size := by
          obtain ⟨q, hq⟩ : ∃ q, l[0]? = some q := ⟨_, List.getElem?_eq_getElem (List.length_pos_iff.2 h0)⟩
          obtain ⟨v', g0, _⟩ := h7 0 q hq
          exact World.block_lt_of_cell? w _ g0
        refine .inr ⟨c, o, h5, ⟨h6, hc⟩, fun i q hq => ?_⟩
        obtain ⟨v', g0, g1, g2, g3, g4, g5, g6⟩ := h7 i q hq
        exact ⟨v', g0, g1, g2, g3, g4, g5, kids_in n _ _ g6⟩

end Ex
end Go.Proofs.YtooelfjceehmmaaDoor
