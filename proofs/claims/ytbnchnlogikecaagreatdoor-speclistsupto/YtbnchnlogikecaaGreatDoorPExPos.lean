import Derived.Test.YtbnchnlogikecaaGreatDoorPSpSz2
namespace Go.Proofs.YtbnchnlogikecaaGreatDoor
open Go.RowKit
attribute [local go_sem] Oper.semAt_some
set_option maxRecDepth 100000
set_option maxHeartbeats 4000000
namespace Ex
def copiesP (mn mx : Int) : Int := if mx = -1 then max mn 1 else mx
def posP : (n : Nat) → PatN n → Int
  | 0, _ => 0
  | n + 1, p => if kind p = 1 then 1 else if kind p = 4 then min ((kids p).foldl (fun acc q => min (acc + posP n q) 4097) 0 * copiesP (min_ p) (max_ p)) 4097 else (kids p).foldl (fun acc q => min (acc + posP n q) 4097) 0
theorem copies_is (k f t mn mx : Int) (v : Value) (w : World) : Calls Tryz.prog 97 #[.agg #[.int .i64 k, .int .i64 f, .int .i64 t, .int .i64 mn, .int .i64 mx, v]] w fun e w' => e = .returned (.int .i64 (copiesP mn mx)) ∧ Kept w w' := by
  unfold copiesP
  go_enter Tryz.func97, Tryz.ntmps97
  go_wp2
  all_goals
    go_ret
    refine ⟨?_, (Kept.refl w).alloc _ _⟩
    simp_all <;> omega
theorem fold_in {α : Type} {f : α → Int} : ∀ (l : List α) (acc : Int), 0 ≤ acc → acc ≤ 4097 → (∀ q ∈ l, 0 ≤ f q) → 0 ≤ l.foldl (fun acc q => min (acc + f q) 4097) acc ∧ l.foldl (fun acc q => min (acc + f q) 4097) acc ≤ 4097
  | [], acc, h0, h1, _ => ⟨h0, h1⟩
  | q :: l, acc, h0, h1, hq => by
    have := hq q List.mem_cons_self
    exact fold_in l (min (acc + f q) 4097) (by omega) (by omega) (fun x hx => hq x (List.mem_cons_of_mem _ hx))
theorem right_kid {n : Nat} {p : PatN (n + 1)} (h : rightP (n + 1) p = true) : ∀ q ∈ kids p, rightP n q = true := by
  have h' : (topOf p && (kids p).all (rightP n)) = true := h
  rw [Bool.and_eq_true] at h'
  exact List.all_eq_true.1 h'.2
theorem right_times {n : Nat} {p : PatN (n + 1)} (h : rightP (n + 1) p = true) (hk : kind p = 4) : 0 ≤ min_ p ∧ min_ p ≤ 1000 ∧ (max_ p = -1 ∨ (min_ p ≤ max_ p ∧ max_ p ≤ 1000)) := by
  have h' : (topOf p && (kids p).all (rightP n)) = true := h
  rw [Bool.and_eq_true] at h'
  have h1 := h'.1
  unfold topOf topP timesP at h1
  simp [hk] at h1
  omega
theorem copies_in {mn mx : Int} (h : 0 ≤ mn ∧ mn ≤ 1000 ∧ (mx = -1 ∨ (mn ≤ mx ∧ mx ≤ 1000))) : 0 ≤ copiesP mn mx ∧ copiesP mn mx ≤ 1000 := by
  unfold copiesP
  split <;> omega
theorem pos_in : ∀ (n : Nat) (p : PatN n), rightP n p = true → 0 ≤ posP n p ∧ posP n p ≤ 4097
  | 0, _, _ => ⟨show (0 : Int) ≤ 0 by decide, show (0 : Int) ≤ 4097 by decide⟩
  | n + 1, p, h => by
    have hf := fold_in (f := posP n) (kids p) 0 (by decide) (by decide) (fun q hq => (pos_in n q (right_kid h q hq)).1)
    show 0 ≤ (if kind p = 1 then (1 : Int) else if kind p = 4 then _ else _) ∧ (if kind p = 1 then (1 : Int) else if kind p = 4 then _ else _) ≤ 4097
    split
    · omega
    · split
      · rename_i hk
        have hc := copies_in (right_times h hk)
        have := Int.mul_nonneg hf.1 hc.1
        omega
      · exact hf
theorem fold_snoc {α : Type} {f : α → Int} {L : List α} {j : Nat} {q : α} (hq : L[j]? = some q) : (L.take (j + 1)).foldl (fun acc q => min (acc + f q) 4097) 0 = min ((L.take j).foldl (fun acc q => min (acc + f q) 4097) 0 + f q) 4097 := by
  obtain ⟨hj, rfl⟩ := List.getElem?_eq_some_iff.1 hq
  rw [List.take_succ_eq_append_getElem hj, List.foldl_append]
  rfl
theorem pos_is (S : Nat → Prop) : ∀ (n : Nat) (p : PatN (n + 1)) (v : Value) (w : World), KidsAt S w n (kids p) v → rightP (n + 1) p = true →
    Calls Tryz.prog 80 #[valOf p v] w fun e w' => e = .returned (.int .i64 (posP (n + 1) p)) ∧ Kept w w' := by
  intro n
  induction n with
  | zero =>
    intro p v w h hr
    have HRP := hide1 hr
    obtain ⟨a, cap, rfl⟩ := h.form
    rw [valOf_eq]
    have HPO : Hid (posP 1 p = if kind p = 1 then 1 else if kind p = 4 then min ((kids p).foldl (fun acc q => min (acc + posP 0 q) 4097) 0 * copiesP (min_ p) (max_ p)) 4097 else (kids p).foldl (fun acc q => min (acc + posP 0 q) 4097) 0) := rfl
    rw [none_of (kids p)] at HPO ⊢
    clear h hr
    go_enter Tryz.func80, Tryz.ntmps80
    by_cases hk1 : kind p = 1
    · have ek : (kind p == 1) = true := by simpa using hk1
      go_wp2_with fail
      go_ret
      exact ⟨by rw [HPO.out, if_pos hk1]; rfl, (Kept.refl w).alloc _ _⟩
    · have ek : (kind p == 1) = false := by simpa using hk1
      have HK1 := hide1 hk1
      clear hk1
      go_wp2_with fail
      obtain ⟨w5, hw5⟩ : ∃ w5, w5 = w.alloc (.cells #[.int .i64 (kind p), .int .i64 (from_ p), .int .i64 (to_ p), .int .i64 (min_ p), .int .i64 (max_ p), .slice a 0 cap] 70) := ⟨_, rfl⟩
      rw [← hw5]
      have HK5 : Hid (Kept w w5) := by rw [hw5]; exact (Kept.refl w).alloc _ _
      obtain ⟨b0, b1, b2, b3, b4, b5⟩ := box_at w (.int .i64 (kind p)) (.int .i64 (from_ p)) (.int .i64 (to_ p)) (.int .i64 (min_ p)) (.int .i64 (max_ p)) (.slice a 0 cap) 70
      rw [← hw5] at b0 b1 b2 b3 b4 b5
      clear hw5
      go_loopw [3, 12] (fun x i wr => x = .int .i64 0 ∧ i = .int .i64 0 ∧ wr = w5) (fun _ _ _ => 0)
      case atStart => exact ⟨rfl, rfl, rfl⟩
      case round =>
        obtain ⟨rfl, rfl, hwr⟩ := hrel
        have hkr : Kept w5 wr := by rw [hwr]; exact Kept.refl _
        have c0 := grown_cell hkr b0
        have c1 := grown_cell hkr b1
        have c2 := grown_cell hkr b2
        have c3 := grown_cell hkr b3
        have c4 := grown_cell hkr b4
        have c5 := grown_cell hkr b5
        have HKr := hide1 hkr
        clear b0 b1 b2 b3 b4 b5 hwr hkr
        by_cases hk4 : kind p = 4
        · have e4 : (kind p == 4) = true := by simpa using hk4
          have HK4 := hide1 hk4
          clear hk4
          go_wp2_with (go_at_call 97; refine (copies_is _ _ _ _ _ _ _).mono ?_; rintro e w6 ⟨rfl, hk6⟩; have HK6 := hide1 (gtrans HK5.out (gtrans HKr.out hk6)); clear hk6)
          go_ret
          exact ⟨by rw [HPO.out, if_neg HK1.out, if_pos HK4.out]; simp; decide, HK6.out⟩
        · have e4 : (kind p == 4) = false := by simpa using hk4
          have HK4 := hide1 hk4
          clear hk4
          go_wp2_with fail
          go_ret
          exact ⟨by rw [HPO.out, if_neg HK1.out, if_neg HK4.out]; rfl, gtrans HK5.out HKr.out⟩
  | succ n ih =>
    intro p v w h hr
    have IH := hide1 ih
    have HK := hide1 h
    have HR := hide1 (right_kid hr)
    have HRP := hide1 hr
    obtain ⟨a, cap, rfl⟩ := h.form
    obtain ⟨a', cap', e', hlc, hcm, _⟩ := h
    simp only [Value.slice.injEq] at e'
    obtain ⟨rfl, _, rfl⟩ := e'
    rw [valOf_eq]
    have HPO : Hid (posP (n + 1 + 1) p = if kind p = 1 then 1 else if kind p = 4 then min ((kids p).foldl (fun acc q => min (acc + posP (n + 1) q) 4097) 0 * copiesP (min_ p) (max_ p)) 4097 else (kids p).foldl (fun acc q => min (acc + posP (n + 1) q) 4097) 0) := rfl
    obtain ⟨L, hL⟩ : ∃ L, kids p = L := ⟨_, rfl⟩
    rw [hL] at hlc hcm HK HR HPO
    have gl : (L.length : Int) ≤ 17592186044416 := by omega
    have gc : (L.length : Int) ≤ (cap : Int) := by omega
    rw [hL]
    clear ih hlc hcm hL hr
    go_enter Tryz.func80, Tryz.ntmps80
    by_cases hk1 : kind p = 1
    · have ek : (kind p == 1) = true := by simpa using hk1
      go_wp2_with fail
      go_ret
      exact ⟨by rw [HPO.out, if_pos hk1]; rfl, (Kept.refl w).alloc _ _⟩
    · have ek : (kind p == 1) = false := by simpa using hk1
      have HK1 := hide1 hk1
      clear hk1
      go_wp2_with fail
      obtain ⟨w5, hw5⟩ : ∃ w5, w5 = w.alloc (.cells #[.int .i64 (kind p), .int .i64 (from_ p), .int .i64 (to_ p), .int .i64 (min_ p), .int .i64 (max_ p), .slice a L.length cap] 70) := ⟨_, rfl⟩
      rw [← hw5]
      have HK5 : Hid (Kept w w5) := by rw [hw5]; exact (Kept.refl w).alloc _ _
      obtain ⟨b0, b1, b2, b3, b4, b5⟩ := box_at w (.int .i64 (kind p)) (.int .i64 (from_ p)) (.int .i64 (to_ p)) (.int .i64 (min_ p)) (.int .i64 (max_ p)) (.slice a L.length cap) 70
      rw [← hw5] at b0 b1 b2 b3 b4 b5
      have HB := hide1 (And.intro b0 (And.intro b1 (And.intro b2 (And.intro b3 (And.intro b4 b5)))))
      clear hw5 b0 b1 b2 b3 b4 b5
      go_loopw [3, 12] (fun x i wr => ∃ (j : Nat) (y : Int), x = .int .i64 y ∧ i = .int .i64 (j : Int) ∧ j ≤ L.length ∧ 0 ≤ y ∧ y ≤ 4097 ∧ Hid (Kept w5 wr) ∧ Hid (y = (L.take j).foldl (fun acc q => min (acc + posP (n + 1) q) 4097) 0)) (fun _ i _ => L.length - (intOf i).toNat)
      case atStart => exact ⟨0, 0, rfl, rfl, Nat.zero_le _, by decide, by decide, Kept.refl _, rfl⟩
      case round =>
        obtain ⟨j, y, rfl, rfl, hj, hy0, hy1, HKr, HY⟩ := hrel
        by_cases hlt : (j : Int) < (L.length : Int)
        · obtain ⟨q, hq⟩ : ∃ q, L[j]? = some q := ⟨_, List.getElem?_eq_getElem (by omega)⟩
          obtain ⟨a2, cap2, e2, _, _, h4⟩ := HK.out.kept (gtrans HK5.out HKr.out)
          simp only [Value.slice.injEq] at e2
          obtain ⟨rfl, _, rfl⟩ := e2
          rcases h4 with h4 | ⟨c, o, rfl, hSc, h7⟩
          · rw [h4] at hq; simp at hq
          · obtain ⟨v', g0, g1, g2, g3, g4, g5, g6⟩ := h7 j q hq
            obtain ⟨a3, cap3, rfl⟩ := g6.form
            have HG6 := hide1 g6
            have HQ := hide1 hq
            have hrq := HR.out q (List.mem_of_getElem? hq)
            obtain ⟨hp0, hp1⟩ := pos_in (n + 1) q hrq
            obtain ⟨z, hz⟩ : ∃ z, posP (n + 1) q = z := ⟨_, rfl⟩
            have HZ := hide1 hz
            rw [hz] at hp0 hp1
            have HRQ := hide1 hrq
            clear h7 g6 hq hrq hz
            go_wp2_with (go_at_call 80; refine (IH.out q _ _ (HG6.out.kept ((Kept.refl wr).alloc _ _)) HRQ.out).mono ?_; rintro e w6 ⟨rfl, hk6⟩; rw [HZ.out]; have HK6 := hide1 (gtrans HKr.out (gtrans ((Kept.refl wr).alloc _ _) hk6)); clear hk6)
            all_goals
              go_roundw
              case rel => exact ⟨j + 1, _, rfl, by go_num, by omega, by omega, by omega, HK6, by rw [fold_snoc HQ.out, ← HY.out, HZ.out]; show _ = _; omega⟩
              case measure => simp [intOf]; omega
        · obtain ⟨b0, b1, b2, b3, b4, b5⟩ := HB.out
          have c0 := grown_cell HKr.out b0
          have c1 := grown_cell HKr.out b1
          have c2 := grown_cell HKr.out b2
          have c3 := grown_cell HKr.out b3
          have c4 := grown_cell HKr.out b4
          have c5 := grown_cell HKr.out b5
          have HYL : Hid (y = L.foldl (fun acc q => min (acc + posP (n + 1) q) 4097) 0) := by have := HY.out; rw [List.take_of_length_le (by omega)] at this; exact this
          clear b0 b1 b2 b3 b4 b5
          by_cases hk4 : kind p = 4
          · have e4 : (kind p == 4) = true := by simpa using hk4
            obtain ⟨hc0, hc1⟩ := copies_in (right_times HRP.out hk4)
            have hprod := Int.mul_nonneg hy0 hc0
            have hprod2 : y * copiesP (min_ p) (max_ p) ≤ 4097 * 1000 := Int.le_trans (Int.mul_le_mul_of_nonneg_right hy1 hc0) (Int.mul_le_mul_of_nonneg_left hc1 (by decide))
            have HK4 := hide1 hk4
            clear hk4
            go_wp2_with (go_at_call 97; refine (copies_is _ _ _ _ _ _ _).mono ?_; rintro e w6 ⟨rfl, hk6⟩; have HK6 := hide1 (gtrans HK5.out (gtrans HKr.out hk6)); clear hk6)
            all_goals
              go_ret
              exact ⟨by rw [HPO.out, if_neg HK1.out, if_pos HK4.out, ← HYL.out]; exact congrArg (fun x => Ending.returned (Value.int .i64 x)) (by omega), HK6.out⟩
          · have e4 : (kind p == 4) = false := by simpa using hk4
            have HK4 := hide1 hk4
            clear hk4
            go_wp2_with fail
            go_ret
            exact ⟨by rw [HPO.out, if_neg HK1.out, if_neg HK4.out, ← HYL.out]; rfl, gtrans HK5.out HKr.out⟩
end Ex
end Go.Proofs.YtbnchnlogikecaaGreatDoor
namespace Go.Proofs.YtbnchnlogikecaaGreatDoor
open Go.RowKit
attribute [local go_sem] Oper.semAt_some
set_option linter.unusedSimpArgs false
set_option maxRecDepth 100000
set_option maxHeartbeats 4000000
namespace Ex
def lookP : (n : Nat) → PatN n → Int → Int × Int → Int × Int
  | 0, _, _, s => s
  | n + 1, p, d, s => (kids p).foldl (fun s q => if 4096 < s.1 then s else lookP n q (d + 1) s) (s.1 + 1, max s.2 d)
def KeptBut (b : Nat) (w w' : World) : Prop :=
  w'.os = w.os ∧ w'.tape = w.tape ∧ w'.output = w.output ∧ w.heap.size ≤ w'.heap.size ∧ ∀ k, k < w.heap.size → k ≠ b → w'.heap[k]? = w.heap[k]?
theorem KeptBut.trans {b : Nat} {u v w : World} (h1 : KeptBut b u v) (h2 : KeptBut b v w) : KeptBut b u w :=
  ⟨h2.1.trans h1.1, h2.2.1.trans h1.2.1, h2.2.2.1.trans h1.2.2.1, Nat.le_trans h1.2.2.2.1 h2.2.2.2.1, fun k hk hn => (h2.2.2.2.2 k (Nat.lt_of_lt_of_le hk h1.2.2.2.1) hn).trans (h1.2.2.2.2 k hk hn)⟩
theorem Kept.but {w w' : World} (h : Kept w w') (b : Nat) : KeptBut b w w' := ⟨h.1, h.2.1, h.2.2.1, h.2.2.2.1, fun k hk _ => h.2.2.2.2 k hk⟩
theorem setCell_but (w : World) (b o : Nat) (v : Value) : KeptBut b w (w.setCell ⟨b, o, none⟩ v) := ⟨rfl, rfl, rfl, by simp [World.setCell], fun k _ hn => Below.heap_setCell _ _ _ _ hn⟩
theorem KeptBut.holds {b : Nat} {w w' : World} (h : KeptBut b w w') {S : Nat → Prop} (hS : ¬ S b) : Holds S w w' := by
  intro k o v hk hc
  have hlt : k < w.heap.size := World.block_lt_of_cell? w _ hc
  rw [← hc]
  exact World.cell?_of_block (a := ⟨k, o, none⟩) (h.2.2.2.2 k hlt (fun e => hS (e ▸ hk)))
def WalkAt (w : World) (b : Nat) (s : Int × Int) : Prop := w.heap[b]? = some (.cells #[.int .i64 s.1, .int .i64 s.2] 159 (0, 0))
theorem WalkAt.lt {w : World} {b : Nat} {s : Int × Int} (h : WalkAt w b s) : b < w.heap.size := (Array.getElem?_eq_some_iff.1 h).1
theorem WalkAt.cells {w : World} {b : Nat} {x y : Int} (h : WalkAt w b (x, y)) : w.cell? ⟨b, 0, none⟩ = some (.int .i64 x) ∧ w.cell? ⟨b, 1, none⟩ = some (.int .i64 y) ∧ w.frozen? ⟨b, 0, none⟩ = false ∧ w.frozen? ⟨b, 1, none⟩ = false := by
  unfold WalkAt at h
  refine ⟨?_, ?_, ?_, ?_⟩ <;> simp [World.cell?, World.frozen?, h]
theorem WalkAt.set {w : World} {b : Nat} {x y : Int} (h : WalkAt w b (x, y)) (x' y' : Int) : WalkAt ((w.setCell ⟨b, 0, none⟩ (.int .i64 x')).setCell ⟨b, 1, none⟩ (.int .i64 y')) b (x', y') := by
  have hl := h.lt
  unfold WalkAt at h ⊢
  have he : w.heap[b] = Obj.cells #[.int .i64 x, .int .i64 y] 159 (0, 0) := by rw [Array.getElem?_eq_getElem hl] at h; exact Option.some.inj h
  simp [World.setCell, Array.getElem_modify, hl, he]
theorem WalkAt.keep {w w' : World} {b : Nat} {s : Int × Int} (h : WalkAt w b s) (hk : Kept w w') : WalkAt w' b s := (hk.2.2.2.2 b h.lt).trans h
def stepL (n : Nat) (d : Int) (s : Int × Int) (q : PatN n) : Int × Int := if 4096 < s.1 then s else lookP n q (d + 1) s
theorem look_eq (n : Nat) (p : PatN (n + 1)) (d : Int) (s : Int × Int) : lookP (n + 1) p d s = (kids p).foldl (stepL n d) (s.1 + 1, max s.2 d) := rfl
def LIn (d : Int) (s : Int × Int) : Prop := d ≤ s.1 ∧ s.1 ≤ 4097 ∧ 0 ≤ s.2 ∧ s.2 ≤ 4097
theorem lfold_in {n : Nat} {d : Int} (hd : 1 ≤ d) (hstep : ∀ (q : PatN n) (s : Int × Int), LIn d s → LIn d (stepL n d s q)) : ∀ (L : List (PatN n)) (s : Int × Int), LIn d s → LIn d (L.foldl (stepL n d) s)
  | [], _, h => h
  | q :: L, s, h => lfold_in hd hstep L _ (hstep q s h)
theorem look_in : ∀ (n : Nat) (q : PatN n) (d : Int) (s : Int × Int), 1 ≤ d → LIn d s → LIn d (stepL n d s q)
  | 0, q, _, _, _, _ => (show Empty from q).elim
  | n + 1, q, d, s, hd, h => by
    unfold stepL
    split
    · exact h
    · rename_i hs
      rw [look_eq]
      have h' : LIn (d + 1) (s.1 + 1, max s.2 (d + 1)) := by unfold LIn at h ⊢; dsimp only; omega
      have := lfold_in (by omega) (fun q s hs => look_in n q (d + 1) s (by omega) hs) (kids q) _ h'
      unfold LIn at this ⊢
      omega
theorem lfold_snoc {α β : Type} {L : List α} {j : Nat} {q : α} {f : β → α → β} {s : β} (hq : L[j]? = some q) : (L.take (j + 1)).foldl f s = f ((L.take j).foldl f s) q := by
  obtain ⟨hj, rfl⟩ := List.getElem?_eq_some_iff.1 hq
  rw [List.take_succ_eq_append_getElem hj, List.foldl_append]; rfl
theorem fold_stop {n : Nat} {d : Int} : ∀ (L : List (PatN n)) (s : Int × Int), 4096 < s.1 → L.foldl (stepL n d) s = s
  | [], _, _ => rfl
  | q :: L, s, h => by
    have e : stepL n d s q = s := by unfold stepL; rw [if_pos h]
    rw [List.foldl_cons, e]; exact fold_stop L s h
theorem fold_rest {n : Nat} {d : Int} {L : List (PatN n)} {j : Nat} {s0 s : Int × Int} (h : (L.take j).foldl (stepL n d) s0 = s) (hs : 4096 < s.1) : L.foldl (stepL n d) s0 = s := by
  have e : L.foldl (stepL n d) s0 = (L.take j ++ L.drop j).foldl (stepL n d) s0 := by rw [List.take_append_drop]
  rw [e, List.foldl_append, h, fold_stop _ _ hs]
theorem look_is (S : Nat → Prop) : ∀ (n : Nat) (p : PatN (n + 1)) (v : Value) (w : World) (b : Nat) (x y d : Int), KidsAt S w n (kids p) v → ¬ S b → WalkAt w b (x, y) →
    0 ≤ x → x ≤ 4096 → 1 ≤ d → d ≤ x + 1 → 0 ≤ y → y ≤ 4097 →
    Calls Tryz.prog 95 #[.pointer (some ⟨b, 0, none⟩), valOf p v, .int .i64 d] w fun e w' => e = .returned (.tuple #[]) ∧ KeptBut b w w' ∧ WalkAt w' b (lookP (n + 1) p d (x, y)) := by
  intro n
  induction n with
  | zero =>
    intro p v w b x y d h hS hw hx0 hx1 hd0 hd1 hy0 hy1
    have HW := hide1 hw
    have hb := hw.lt
    obtain ⟨c0, c1, z0, z1⟩ := hw.cells
    obtain ⟨a, cap, rfl⟩ := h.form
    rw [valOf_eq]
    have HL : Hid (lookP 1 p d (x, y) = (kids p).foldl (stepL 0 d) (x + 1, max y d)) := rfl
    rw [none_of (kids p)] at HL ⊢
    clear h hS hw
    go_enter Tryz.func95, Tryz.ntmps95
    go_wp2_with fail
    all_goals
      go_loopw [27] (fun i wr => i = .int .i64 0 ∧ Hid (KeptBut b w wr ∧ WalkAt wr b (x + 1, max y d))) (fun _ _ => 0)
      case atStart =>
        refine ⟨rfl, ((setCell_but _ _ _ _).trans (setCell_but _ _ _ _)).trans (((Kept.refl _).alloc _ _).but b), ?_⟩
        first
        | (rw [show max y d = y from by omega]; exact (HW.out.set _ _).keep ((Kept.refl _).alloc _ _))
        | (rw [show max y d = d from by omega]; exact (HW.out.set _ _).keep ((Kept.refl _).alloc _ _))
      case round =>
        obtain ⟨rfl, HKr⟩ := hrel
        go_wp2_with fail
        go_end0
        exact ⟨rfl, HKr.out.1, by rw [HL.out]; exact HKr.out.2⟩
  | succ n ih =>
    intro p v w b x y d h hS hw hx0 hx1 hd0 hd1 hy0 hy1
    have IH := hide1 ih
    have HK := hide1 h
    have HS := hide1 hS
    have HW := hide1 hw
    have hb := hw.lt
    obtain ⟨c0, c1, z0, z1⟩ := hw.cells
    obtain ⟨a, cap, rfl⟩ := h.form
    obtain ⟨a', cap', e', hlc, hcm, _⟩ := h
    simp only [Value.slice.injEq] at e'
    obtain ⟨rfl, _, rfl⟩ := e'
    rw [valOf_eq]
    have HL : Hid (lookP (n + 1 + 1) p d (x, y) = (kids p).foldl (stepL (n + 1) d) (x + 1, max y d)) := rfl
    obtain ⟨L, hL⟩ : ∃ L, kids p = L := ⟨_, rfl⟩
    rw [hL] at hlc hcm HK HL
    have gl : (L.length : Int) ≤ 17592186044416 := by omega
    have gc : (L.length : Int) ≤ (cap : Int) := by omega
    rw [hL]
    clear ih hlc hcm hL hS hw
    go_enter Tryz.func95, Tryz.ntmps95
    go_wp2_with fail
    all_goals
      go_loopw [27] (fun i wr => ∃ (j : Nat) (s1 s2 : Int), i = .int .i64 (j : Int) ∧ j ≤ L.length ∧ d ≤ s1 ∧ s1 ≤ 4097 ∧ 0 ≤ s2 ∧ s2 ≤ 4097 ∧ Hid (KeptBut b w wr) ∧ Hid (WalkAt wr b (s1, s2)) ∧ Hid ((L.take j).foldl (stepL (n + 1) d) (x + 1, max y d) = (s1, s2))) (fun i _ => L.length - (intOf i).toNat)
      case atStart =>
        refine ⟨0, x + 1, max y d, rfl, Nat.zero_le _, by omega, by omega, by omega, by omega, ((setCell_but _ _ _ _).trans (setCell_but _ _ _ _)).trans (((Kept.refl _).alloc _ _).but b), ?_, rfl⟩
        first
        | (rw [show max y d = y from by omega]; exact (HW.out.set _ _).keep ((Kept.refl _).alloc _ _))
        | (rw [show max y d = d from by omega]; exact (HW.out.set _ _).keep ((Kept.refl _).alloc _ _))
      case round =>
        obtain ⟨j, s1, s2, rfl, hj, hs0, hs1, hs2, hs3, HKr, HWr, HF⟩ := hrel
        have hbr := HWr.out.lt
        clear c0 c1 z0 z1
        obtain ⟨c0, c1, z0, z1⟩ := HWr.out.cells
        by_cases hlt : (j : Int) < (L.length : Int)
        · obtain ⟨q, hq⟩ : ∃ q, L[j]? = some q := ⟨_, List.getElem?_eq_getElem (by omega)⟩
          obtain ⟨a2, cap2, e2, _, _, h4⟩ := KidsAt.mono (HKr.out.holds HS.out) (fun _ h => h) _ _ _ HK.out
          simp only [Value.slice.injEq] at e2
          obtain ⟨rfl, _, rfl⟩ := e2
          rcases h4 with h4 | ⟨c, o, rfl, hSc, h7⟩
          · rw [h4] at hq; simp at hq
          · obtain ⟨v', g0, g1, g2, g3, g4, g5, g6⟩ := h7 j q hq
            obtain ⟨a3, cap3, rfl⟩ := g6.form
            have HG6 := hide1 g6
            have HQ := hide1 hq
            clear h7 g6 hq
            by_cases hbig : 4096 < s1
            · go_wp2_with fail
              refine bodyPost_ret (results_none rfl _ _ _) rfl ?_
              exact ⟨rfl, HKr.out.trans (((Kept.refl _).alloc _ _).but b), by rw [HL.out, fold_rest HF.out hbig]; exact HWr.out.keep ((Kept.refl _).alloc _ _)⟩
            · have HIN := hide1 (look_in (n + 1) q d (s1, s2) hd0 ⟨hs0, hs1, hs2, hs3⟩)
              have HST : Hid (stepL (n + 1) d (s1, s2) q = lookP (n + 1) q (d + 1) (s1, s2)) := by show _ = _; unfold stepL; rw [if_neg hbig]
              go_wp2_with (go_at_call 95; refine (IH.out q _ _ b s1 s2 (d + 1) (HG6.out.kept ((Kept.refl wr).alloc _ _)) HS.out (HWr.out.keep ((Kept.refl _).alloc _ _)) (by omega) (by omega) (by omega) (by omega) hs2 hs3).mono ?_; rintro e w6 ⟨rfl, hk6, hw6⟩; have HK6 := hide1 (HKr.out.trans ((((Kept.refl wr).alloc _ _).but b).trans hk6)); have HW6 := hide1 hw6; clear hk6 hw6)
              go_roundw
              case rel =>
                obtain ⟨⟨r1, r2⟩, hr⟩ : ∃ r, lookP (n + 1) q (d + 1) (s1, s2) = r := ⟨_, rfl⟩
                have hin := HIN.out
                rw [HST.out, hr] at hin
                have hw6 := HW6.out
                rw [hr] at hw6
                exact ⟨j + 1, r1, r2, by go_num, by omega, hin.1, hin.2.1, hin.2.2.1, hin.2.2.2, HK6, hw6, by show _ = _; rw [lfold_snoc HQ.out, HF.out, HST.out, hr]⟩
              case measure => simp [intOf]; omega
        · have HFL : Hid (L.foldl (stepL (n + 1) d) (x + 1, max y d) = (s1, s2)) := by have := HF.out; rw [List.take_of_length_le (by omega)] at this; exact this
          go_wp2_with fail
          go_end0
          exact ⟨rfl, HKr.out, by rw [HL.out, HFL.out]; exact HWr.out⟩
end Ex
end Go.Proofs.YtbnchnlogikecaaGreatDoor
