import Derived.Test.YtbnchnlogikecaaGreatDoorPExBounds
import Derived.Test.YtbnchnlogikecaaGreatDoorPExFr0
import Derived.Handy
namespace Go.Proofs.YtbnchnlogikecaaGreatDoor
open Go.RowKit
attribute [local go_sem] Oper.semAt_some
set_option linter.unusedSimpArgs false
set_option maxRecDepth 100000
set_option maxHeartbeats 2000000
namespace Ex
def rangeV (f t : Int) : Value := .agg #[.int .i64 1, .int .i64 f, .int .i64 t, .int .i64 0, .int .i64 0, .slice none 0 0]
def rangeP (f t : Int) : Pat := mkP 1 f t 0 0 []
theorem single_is (c : Int) (w : World) : Calls Tryz.prog 140 #[.int .i64 c] w fun e w' => e = .returned (rangeV c c) ∧ Kept w w' := by
  unfold rangeV
  go_enter Tryz.func140, Tryz.ntmps140
  go_wp2
  all_goals
    go_returns
    exact ⟨rfl, (Kept.refl w).alloc _ _⟩
theorem one_flat {S : Nat → Prop} {w : World} {p : Pat} {v' : Value} (h : KidsAt S w p.1 (kids p.2) v') : FlatAt S w [p] (cellsP p v') := FlatAt.snoc (l := []) (xs := []) rfl h
theorem box_cells (w : World) (p : Pat) (v' : Value) (t : TypeId) : ∀ j u, (cellsP p v')[j]? = some u → (w.alloc (.cells #[.int .i64 (kind p.2), .int .i64 (from_ p.2), .int .i64 (to_ p.2), .int .i64 (min_ p.2), .int .i64 (max_ p.2), v'] t)).cell? ⟨w.heap.size, 0 + j, none⟩ = some u := by
  intro j u h
  have hb := box_at w (.int .i64 (kind p.2)) (.int .i64 (from_ p.2)) (.int .i64 (to_ p.2)) (.int .i64 (min_ p.2)) (.int .i64 (max_ p.2)) v' t
  have hj : j < 6 := (List.getElem?_eq_some_iff.1 h).1
  rw [Nat.zero_add]
  match j, hj with
  | 0, _ => rw [hb.1]; exact h
  | 1, _ => rw [hb.2.1]; exact h
  | 2, _ => rw [hb.2.2.1]; exact h
  | 3, _ => rw [hb.2.2.2.1]; exact h
  | 4, _ => rw [hb.2.2.2.2.1]; exact h
  | 5, _ => rw [hb.2.2.2.2.2]; exact h
def RGave (b : Nat) (w : World) (T : ByteArray) (s : Int × Int × Int) (w' : World) : Prop := (0 ≤ s.1 ∧ s.1 ≤ T.size) ∧ KeptBut b w w' ∧ RAt w' b T s.1 s.2.1 s.2.2
def failS (T : ByteArray) (s : Int × Int × Int) (x y : Int) : Int × Int × Int := (T.size, failE s.2.1 x, failF s.2.1 s.2.2 y)
def wrongS (T : ByteArray) (s : Int × Int × Int) : Int × Int × Int := failS T s (wrongC T s.1) s.1
def placeOf (b : Nat) (w : World) : Nat := (intOf ((w.cell? ⟨b, 1, none⟩).getD (.int .i64 0))).toNat
theorem RAt.place {w : World} {b : Nat} {T : ByteArray} {k e f : Int} (h : RAt w b T k e f) : placeOf b w = k.toNat := by
  unfold placeOf; rw [h.cells.2.1]; rfl
def numG (T : ByteArray) : Nat → Int → Int → Int × Int
  | 0, k, n => (n, k)
  | m + 1, k, n => if digitP (peekP T k) then numG T m (k + 1) (n * 10 + (peekP T k - 48)) else (n, k)
def numberS (T : ByteArray) (s : Int × Int × Int) : Int × Int × Int × Int := if (numG T 4 s.1 0).2 = s.1 then ((numG T 4 s.1 0).1, wrongS T s) else ((numG T 4 s.1 0).1, (numG T 4 s.1 0).2, s.2)
theorem peek_lt {T : ByteArray} {k : Int} (h : peekP T k ≠ 0) : 0 ≤ k ∧ k < T.size := by
  unfold peekP at h
  split at h
  · assumption
  · exact absurd rfl h
theorem numG_end {T : ByteArray} {N : Nat} {k n : Int} (h : N = 0 ∨ digitP (peekP T k) = false) : numG T N k n = (n, k) := by
  cases N with
  | zero => rfl
  | succ N =>
    rcases h with h | h
    · omega
    · rw [numG, h]; rfl
theorem number_is (T : ByteArray) (k e f : Int) (b : Nat) (w : World) (h : RAt w b T k e f) (h0 : 0 ≤ k) (h1 : k ≤ T.size) (hT : T.size ≤ 4096) :
    Calls Tryz.prog 144 #[.pointer (some ⟨b, 0, none⟩)] w fun r w' => r = .returned (.int .i64 (numberS T (k, e, f)).1) ∧ RGave b w T (numberS T (k, e, f)).2 w' := by
  have HR := hide1 h
  obtain ⟨c0, c1, c2, c3, c4⟩ := h.cells
  have hb := h.lt
  have gT : (T.size : Int) ≤ 4096 := by omega
  clear h
  go_enter Tryz.func144, Tryz.ntmps144
  go_wp2_with (go_quiet (fail))
  clear c1
  go_loopw [3] (fun n wr => ∃ (j : Nat) (k1 n1 : Int), n = .int .i64 n1 ∧ k1 = k + (j : Int) ∧ j ≤ 4 ∧ k1 ≤ (T.size : Int) ∧ 0 ≤ n1 ∧ Hid (n1 < 10 ^ j) ∧ Hid (KeptBut b w wr) ∧ Hid (RAt wr b T k1 e f) ∧ Hid (∀ N, numG T (j + N) k 0 = numG T N k1 n1)) (fun _ wr => T.size - placeOf b wr)
  case atStart => exact ⟨0, k, 0, rfl, by omega, by omega, h1, by omega, by show (0 : Int) < 10 ^ 0; omega, (drewN_kept _ _).but b, HR.out.drew _, fun N => by rw [Nat.zero_add]⟩
  case round =>
    obtain ⟨j, k1, n1, rfl, hk1, hj, hk2, hn0, HN, HKr, HRr, HM⟩ := hrel
    obtain ⟨c0, c1, c2, c3, c4⟩ := HRr.out.cells
    obtain ⟨z0, z1, z2, z3, z4⟩ := HRr.out.free
    have hbr := HRr.out.lt
    have hc := peek_byte T k1
    unfold IsB at hc
    obtain ⟨c, hcc⟩ : ∃ c, peekP T k1 = c := ⟨_, rfl⟩
    have HC := hide1 hcc
    rw [hcc] at hc
    by_cases hlt : k1 < k + 4
    · by_cases hd : digitP c = true
      · have hd2 : 48 ≤ c ∧ c ≤ 57 := by unfold digitP at hd; simpa using hd
        have hlt2 := peek_lt (T := T) (k := k1) (by rw [hcc]; omega)
        have hn9 : n1 ≤ 999 := by
          have h1 := HN.out
          have h2 : (10 : Int) ^ j ≤ 1000 := by
            have : j = 0 ∨ j = 1 ∨ j = 2 ∨ j = 3 := by omega
            rcases this with rfl | rfl | rfl | rfl <;> decide
          omega
        clear hcc
        go_wp2_with (first
          | (go_at_call 135; refine (peek_is T k1 e f b _ (by exact HRr.out) (by omega) hk2 hT).mono ?_; rintro e w6 ⟨rfl, m, rfl⟩; rw [HC.out])
          | (go_at_call 147; refine (digit_is _ _).mono ?_; rintro e w6 ⟨rfl, rfl⟩; rw [hd]))
        go_roundw
        case rel =>
          refine ⟨j + 1, k + (j : Int) + 1, n1 * 10 + (c - 48), by go_num, by omega, by omega, by omega, by omega, ?_, ?_, ?_, ?_⟩
          · have h1 := HN.out
            show _ < _
            rw [Int.pow_succ]
            omega
          · exact but_set (but_drew HKr.out _) _ _
          · exact (HRr.out.drew _).move _
          · intro N
            rw [show j + 1 + N = j + (N + 1) by omega, HM.out, numG, HC.out, hd, hk1]
            rfl
        case measure => rw [((HRr.out.drew _).move _).place, HRr.out.place]; omega
      · have hd' : digitP c = false := by simpa using hd
        have HE : Hid (numG T 4 k 0 = (n1, k1)) := by
          show _ = _
          rw [show 4 = j + (4 - j) by omega, HM.out, numG_end (Or.inr (by rw [hcc]; exact hd'))]
        clear hcc
        by_cases hk : k1 = k
        · go_wp2_with (first
            | (go_at_call 135; refine (peek_is T k1 e f b _ (by exact HRr.out) (by omega) hk2 hT).mono ?_; rintro e w6 ⟨rfl, m, rfl⟩; rw [HC.out])
            | (go_at_call 147; refine (digit_is _ _).mono ?_; rintro e w6 ⟨rfl, rfl⟩; rw [hd'])
            | (go_at_call 131; refine (wrong_is T k1 e f b _ (by exact HRr.out) hT).mono ?_; rintro e w6 ⟨rfl, hk6, hw6⟩; have HK6 := hide1 (HKr.out.trans (but_undrew hk6)); have HW6 := hide1 hw6; clear hk6 hw6))
          go_ret
          have e1 : numberS T (k, e, f) = (n1, wrongS T (k, e, f)) := by unfold numberS; rw [HE.out, if_pos (by exact hk)]
          rw [e1]
          subst hk
          exact ⟨rfl, ⟨Int.natCast_nonneg _, Int.le_refl _⟩, HK6.out, HW6.out⟩
        · go_wp2_with (first
            | (go_at_call 135; refine (peek_is T k1 e f b _ (by exact HRr.out) (by omega) hk2 hT).mono ?_; rintro e w6 ⟨rfl, m, rfl⟩; rw [HC.out])
            | (go_at_call 147; refine (digit_is _ _).mono ?_; rintro e w6 ⟨rfl, rfl⟩; rw [hd']))
          go_ret
          have e1 : numberS T (k, e, f) = (n1, k1, e, f) := by unfold numberS; rw [HE.out, if_neg (by exact hk)]
          rw [e1]
          exact ⟨rfl, ⟨by show 0 ≤ k1; omega, hk2⟩, but_drew HKr.out _, HRr.out.drew _⟩
    · have HE : Hid (numG T 4 k 0 = (n1, k1)) := by
        show _ = _
        rw [show 4 = j + (4 - j) by omega, HM.out, numG_end (Or.inl (by omega))]
      have hk : ¬ k1 = k := by omega
      go_wp2_with fail
      go_ret
      have e1 : numberS T (k, e, f) = (n1, k1, e, f) := by unfold numberS; rw [HE.out, if_neg (by exact hk)]
      rw [e1]
      exact ⟨rfl, ⟨by show 0 ≤ k1; omega, hk2⟩, HKr.out, HRr.out⟩
def classSignsS : ByteArray := ⟨#[93, 92, 45, 47]⟩
def oneS (T : ByteArray) (s : Int × Int × Int) : Int × Int × Int × Int := if printedP (peekP T s.1) && !inS classSignsS (peekP T s.1) then (peekP T s.1, s.1 + 1, s.2) else (0, wrongS T s)
end Ex
end Go.Proofs.YtbnchnlogikecaaGreatDoor
namespace Go.Proofs.YtbnchnlogikecaaGreatDoor
open Go.RowKit
attribute [local go_sem] Oper.semAt_some
namespace Ex
def OkS (T : ByteArray) (s : Int × Int × Int) : Prop := 0 ≤ s.1 ∧ s.1 ≤ T.size
theorem wrong_ok (T : ByteArray) (s : Int × Int × Int) : OkS T (wrongS T s) := ⟨Int.natCast_nonneg _, Int.le_refl _⟩
theorem fail_ok (T : ByteArray) (s : Int × Int × Int) (x y : Int) : OkS T (failS T s x y) := ⟨Int.natCast_nonneg _, Int.le_refl _⟩
theorem one_ok {T : ByteArray} {s : Int × Int × Int} (h : OkS T s) : OkS T (oneS T s).2 ∧ s.1 ≤ (oneS T s).2.1 := by
  unfold oneS
  split
  · rename_i hp
    simp only [Bool.and_eq_true] at hp
    have h1 : peekP T s.1 ≠ 0 := by have := hp.1; unfold printedP at this; simp at this; omega
    have h2 := peek_lt h1
    exact ⟨⟨by show 0 ≤ s.1 + 1; omega, by show s.1 + 1 ≤ _; omega⟩, by show s.1 ≤ s.1 + 1; omega⟩
  · exact ⟨wrong_ok T s, h.2⟩
theorem numG_ok {T : ByteArray} : ∀ (N : Nat) (k n : Int), 0 ≤ k → k ≤ T.size → k ≤ (numG T N k n).2 ∧ (numG T N k n).2 ≤ T.size
  | 0, k, n, h0, h1 => ⟨Int.le_refl _, h1⟩
  | N + 1, k, n, h0, h1 => by
    rw [numG]
    split
    · rename_i hd
      have h2 : peekP T k ≠ 0 := by unfold digitP at hd; simp at hd; omega
      have h3 := peek_lt h2
      have := numG_ok (T := T) N (k + 1) (n * 10 + (peekP T k - 48)) (by omega) (by omega)
      omega
    · exact ⟨Int.le_refl _, h1⟩
theorem number_ok {T : ByteArray} {s : Int × Int × Int} (h : OkS T s) : OkS T (numberS T s).2 ∧ s.1 ≤ (numberS T s).2.1 := by
  have h1 := numG_ok (T := T) 4 s.1 0 h.1 h.2
  have h0 := h.1
  unfold numberS
  split
  · exact ⟨wrong_ok T s, h.2⟩
  · exact ⟨⟨by show 0 ≤ (numG T 4 s.1 0).2; omega, h1.2⟩, h1.1⟩
theorem take_ok {T : ByteArray} {s : Int × Int × Int} {c : Int} (hc : c ≠ 0) (h : peekP T s.1 = c) : OkS T (s.1 + 1, s.2) := by
  have := peek_lt (T := T) (k := s.1) (by rw [h]; exact hc)
  exact ⟨by show 0 ≤ s.1 + 1; omega, by show s.1 + 1 ≤ _; omega⟩
theorem but_allocd {b : Nat} {w w' : World} {c : Array Value} {t : TypeId} (h : KeptBut b (w.alloc (.cells c t)) w') : KeptBut b w w' := (((Kept.refl w).alloc c t).but b).trans h
theorem but_new {b g o : Nat} {w w' : World} {v : Value} (h : KeptBut b w w') (hg : w.heap.size ≤ g) : KeptBut b w (w'.setCell ⟨g, o, none⟩ v) :=
  ⟨h.1, h.2.1, h.2.2.1, by simpa [World.setCell] using h.2.2.2.1, fun k hk hn => (Below.heap_setCell _ _ _ _ (show k ≠ g by omega)).trans (h.2.2.2.2 k hk hn)⟩
theorem RAt.other {w : World} {b g o : Nat} {v : Value} {T : ByteArray} {k e f : Int} (h : RAt w b T k e f) (hg : b ≠ g) : RAt (w.setCell ⟨g, o, none⟩ v) b T k e f := by
  unfold RAt at h ⊢
  rw [← h]
  exact Below.heap_setCell _ _ _ _ hg
theorem box_end {b : Nat} {w w' : World} (h : KeptBut b (w.alloc (.cells #[.int .i64 0, .int .i64 0, .int .i64 0, .int .i64 0, .int .i64 0, .slice none 0 0] 70)) w') (hb : b < w.heap.size) :
    (w'.cell? ⟨w.heap.size, 0, none⟩ = some (.int .i64 0) ∧ w'.cell? ⟨w.heap.size, 1, none⟩ = some (.int .i64 0) ∧ w'.cell? ⟨w.heap.size, 2, none⟩ = some (.int .i64 0) ∧ w'.cell? ⟨w.heap.size, 3, none⟩ = some (.int .i64 0) ∧ w'.cell? ⟨w.heap.size, 4, none⟩ = some (.int .i64 0) ∧ w'.cell? ⟨w.heap.size, 5, none⟩ = some (.slice none 0 0)) ∧
    w'.frozen? ⟨w.heap.size, 0, none⟩ = false ∧ w'.frozen? ⟨w.heap.size, 1, none⟩ = false ∧ w'.frozen? ⟨w.heap.size, 2, none⟩ = false ∧ w'.frozen? ⟨w.heap.size, 3, none⟩ = false ∧ w'.frozen? ⟨w.heap.size, 4, none⟩ = false ∧ w'.frozen? ⟨w.heap.size, 5, none⟩ = false := by
  have e : w'.heap[w.heap.size]? = some (.cells #[.int .i64 0, .int .i64 0, .int .i64 0, .int .i64 0, .int .i64 0, .slice none 0 0] 70 (0, 0)) := by
    rw [h.2.2.2.2 w.heap.size (by simp) (by omega)]
    exact heap_alloc_new w _
  refine ⟨⟨?_, ?_, ?_, ?_, ?_, ?_⟩, ?_, ?_, ?_, ?_, ?_, ?_⟩ <;> simp [World.cell?, World.frozen?, e]
theorem box_kept {b : Nat} {w w' : World} (h : KeptBut b (w.alloc (.cells #[.int .i64 0, .int .i64 0, .int .i64 0, .int .i64 0, .int .i64 0, .slice none 0 0] 70)) w') (hb : b < w.heap.size) : w'.heap[w.heap.size]? = some (.cells #[.int .i64 0, .int .i64 0, .int .i64 0, .int .i64 0, .int .i64 0, .slice none 0 0] 70 (0, 0)) := by
  rw [h.2.2.2.2 w.heap.size (by simp) (by omega)]
  exact heap_alloc_new w _
theorem box_full {w : World} {g : Nat} {y0 y1 y2 y3 y4 y5 x0 x1 x2 x3 x4 x5 : Value} (h : w.heap[g]? = some (.cells #[y0, y1, y2, y3, y4, y5] 70 (0, 0))) :
    ((((((w.setCell ⟨g, 0, none⟩ x0).setCell ⟨g, 1, none⟩ x1).setCell ⟨g, 2, none⟩ x2).setCell ⟨g, 3, none⟩ x3).setCell ⟨g, 4, none⟩ x4).setCell ⟨g, 5, none⟩ x5).heap[g]? = some (.cells #[x0, x1, x2, x3, x4, x5] 70 (0, 0)) := by
  have hl : g < w.heap.size := (Array.getElem?_eq_some_iff.1 h).1
  have he : w.heap[g] = Obj.cells #[y0, y1, y2, y3, y4, y5] 70 (0, 0) := by rw [Array.getElem?_eq_getElem hl] at h; exact Option.some.inj h
  simp [World.setCell, Array.getElem_modify, hl, he]
theorem box_returns {fn : Func} {p : Tmp} (h : fn.results = #[.cell p 70]) (tmps : Array Value) (w : World) (g : Nat) (x0 x1 x2 x3 x4 x5 : Value) (hp : tmps.getD p undef = .pointer (some ⟨g, 0, none⟩)) (hg : w.heap[g]? = some (.cells #[x0, x1, x2, x3, x4, x5] 70 (0, 0))) :
    (results fn tmps).run Tryz.prog w = .ok (.agg #[x0, x1, x2, x3, x4, x5]) w :=
  results_cell_row h tmps w g 70 _ (0, 0) _ hp hg Tryz.underlying70 rfl (by kernel_rfl)
theorem fin_but {b g : Nat} {w w' : World} {x0 x1 x2 x3 x4 x5 : Value} (h : KeptBut b w w') (hg : w.heap.size ≤ g) : KeptBut b w ((((((w'.setCell ⟨g, 0, none⟩ x0).setCell ⟨g, 1, none⟩ x1).setCell ⟨g, 2, none⟩ x2).setCell ⟨g, 3, none⟩ x3).setCell ⟨g, 4, none⟩ x4).setCell ⟨g, 5, none⟩ x5) :=
  but_new (but_new (but_new (but_new (but_new (but_new h hg) hg) hg) hg) hg) hg
theorem RAt.fin {w : World} {b g : Nat} {x0 x1 x2 x3 x4 x5 : Value} {T : ByteArray} {k e f : Int} (h : RAt w b T k e f) (hg : b ≠ g) : RAt ((((((w.setCell ⟨g, 0, none⟩ x0).setCell ⟨g, 1, none⟩ x1).setCell ⟨g, 2, none⟩ x2).setCell ⟨g, 3, none⟩ x3).setCell ⟨g, 4, none⟩ x4).setCell ⟨g, 5, none⟩ x5) b T k e f :=
  (((((h.other hg).other hg).other hg).other hg).other hg).other hg
end Ex
end Go.Proofs.YtbnchnlogikecaaGreatDoor
