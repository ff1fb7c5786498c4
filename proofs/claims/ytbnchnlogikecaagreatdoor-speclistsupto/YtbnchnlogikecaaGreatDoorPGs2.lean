import Derived.Test.YtbnchnlogikecaaGreatDoorPExKl
import Derived.Deep.DeepMust
import Derived.Deep.Cut
import Derived.BigQuiet
import Derived.Test.YtbnchnlogikecaaGreatDoorPExGd0
import Derived.Laws.Externs
import Derived.Laws.Runes
import Derived.Lib.Strings
import Derived.Lib.Walk
import Derived.Lib.BufferWrite
import Derived.Lib.UnsafeStr
import Derived.Lib.Hide
import Derived.Laws.MakeOwn
namespace Go.Proofs.YtbnchnlogikecaaGreatDoor
open Go.RowKit
attribute [local go_sem] Oper.semAt_some
set_option maxRecDepth 100000
set_option maxHeartbeats 4000000
namespace Ex
namespace Gs
theorem heap_at (w : World) (b o : Nat) (v : Value) : (w.setCell ⟨b, o, none⟩ v).heap[b]? = (w.heap[b]?).map (fun x => match x with | .cells c t f => .cells (c.setIfInBounds o v) t f | x => x) := by
  by_cases h : b < w.heap.size
  · rw [Array.getElem?_eq_getElem h, Option.map_some]
    simp only [World.setCell, Array.getElem?_modify]
    simp [h]
    cases w.heap[b] <;> rfl
  · rw [Array.getElem?_eq_none (xs := w.heap) (by omega), Option.map_none]
    exact Array.getElem?_eq_none (by simp [World.setCell]; omega)
def ScAt (w : World) (b : Nat) (T : ByteArray) (k : Nat) : Prop := ∃ c t, w.heap[b]? = some (.cells c t (0, 0)) ∧ c[0]? = some (.string T) ∧ c[1]? = some (.int .i64 (k : Int))
theorem ScAt.cells {w : World} {b : Nat} {T : ByteArray} {k : Nat} (h : ScAt w b T k) : w.cell? ⟨b, 0, none⟩ = some (.string T) ∧ w.cell? ⟨b, 1, none⟩ = some (.int .i64 (k : Int)) ∧ w.frozen? ⟨b, 1, none⟩ = false := by
  obtain ⟨c, t, h1, h2, h3⟩ := h
  refine ⟨?_, ?_, ?_⟩
  · unfold World.cell?; simp only [h1]; exact h2
  · unfold World.cell?; simp only [h1]; exact h3
  · unfold World.frozen?; simp only [h1]; rfl
def Mv (b k : Nat) (w w' : World) : Prop := KeptBut b w w' ∧ w'.heap[b]? = (w.setCell ⟨b, 1, none⟩ (.int .i64 (k : Int))).heap[b]?
theorem Mv.at_ {w w' : World} {b j k : Nat} {T : ByteArray} (h : Mv b k w w') (hs : ScAt w b T j) : ScAt w' b T k := by
  obtain ⟨c, t, h1, h2, h3⟩ := hs
  have h4 := h.2
  rw [heap_at, h1] at h4
  refine ⟨_, t, h4, ?_, ?_⟩
  · rw [Array.getElem?_setIfInBounds_ne (by decide)]; exact h2
  · rw [Array.getElem?_setIfInBounds_self_of_lt (Array.getElem?_eq_some_iff.1 h3).1]
theorem Mv.refl {w : World} {b k : Nat} {T : ByteArray} (hs : ScAt w b T k) : Mv b k w w := by
  refine ⟨(Kept.refl w).but b, ?_⟩
  obtain ⟨c, t, h1, h2, h3⟩ := hs
  rw [heap_at, h1, Option.map_some]
  congr 2
  apply Array.ext_getElem?
  intro i
  rw [Array.getElem?_setIfInBounds]
  by_cases hi : 1 = i
  · subst hi
    rw [if_pos rfl, if_pos (Array.getElem?_eq_some_iff.1 h3).1, h3]
  · rw [if_neg hi]
theorem Mv.trans {w w' w'' : World} {b j k : Nat} (h : Mv b j w w') (h2 : Mv b k w' w'') : Mv b k w w'' := by
  refine ⟨h.1.trans h2.1, ?_⟩
  rw [h2.2, heap_at, h.2, heap_at, heap_at, Option.map_map]
  cases w.heap[b]? with
  | none => rfl
  | some x => cases x <;> simp
theorem Mv.set {w w' : World} {b j : Nat} (h : Mv b j w w') (k : Nat) : Mv b k w (w'.setCell ⟨b, 1, none⟩ (.int .i64 (k : Int))) := h.trans ⟨setCell_but _ _ _ _, rfl⟩
theorem Mv.drew {w w' : World} {b k : Nat} (h : Mv b k w w') (m : Nat) : Mv b k w (w'.drewN m) := ⟨h.1, h.2⟩
def posW (w : World) (b : Nat) : Nat := match w.cell? ⟨b, 1, none⟩ with | some (.int _ j) => j.toNat | _ => 0
theorem posW_at {w : World} {b k : Nat} {T : ByteArray} (h : ScAt w b T k) : posW w b = k := by
  unfold posW
  rw [h.cells.2.1]
  simp
def blankB (c : Int) : Bool := decide (0 ≤ firstIdx ⟨#[9, 10, 13, 32]⟩ c.toNat.toUInt8)
def skipF (T : ByteArray) : Nat → Nat → Nat
  | 0, n => n
  | f + 1, n => if n < T.size ∧ blankB (peekP T n) = true then skipF T f (n + 1) else n
def skipB (T : ByteArray) (k : Nat) : Nat := skipF T (T.size - k) k
theorem skip_step {T : ByteArray} {j : Nat} (h : j < T.size) (hc : blankB (peekP T j) = true) : skipB T j = skipB T (j + 1) := by
  unfold skipB
  rw [show T.size - j = (T.size - (j + 1)) + 1 by omega, skipF, if_pos ⟨h, hc⟩]
theorem skip_stop {T : ByteArray} {j : Nat} (hc : ¬ (j < T.size ∧ blankB (peekP T j) = true)) : skipB T j = j := by
  unfold skipB
  by_cases h : j < T.size
  · rw [show T.size - j = (T.size - (j + 1)) + 1 by omega, skipF, if_neg hc]
  · rw [show T.size - j = 0 by omega]
    rfl
theorem blanks_is (T : ByteArray) (hT : T.size ≤ 100000) (b k : Nat) (w : World) (hs : ScAt w b T k) (hk : k ≤ T.size) :
    Calls Tryz.prog 84 #[.pointer (some ⟨b, 0, none⟩)] w fun e w' => e = .returned (.tuple #[]) ∧ Mv b (skipB T k) w w' := by
  have HS := hide1 hs
  have gT : (T.size : Int) ≤ 100000 := by omega
  have HK := hide1 hk
  clear hs hT hk
  go_enter Tryz.func84, Tryz.ntmps84
  go_wp2_with fail
  go_loopw [] (fun wr => ∃ j : Nat, j ≤ T.size ∧ Hid (skipB T j = skipB T k) ∧ Hid (Mv b j w wr)) (fun wr => T.size - posW wr b)
  case atStart => exact ⟨k, HK.out, rfl, Mv.refl HS.out⟩
  case round =>
    obtain ⟨j, hj, hq, hm⟩ := hrel
    have hsj := hm.out.at_ HS.out
    obtain ⟨c0, c1, z1⟩ := hsj.cells
    have HP := hide1 (posW_at hsj)
    by_cases hlt : (j : Int) < (T.size : Int)
    · have hjl : j < T.size := by omega
      have hpk : peekP T (j : Int) = ((T[j]'hjl).toNat : Int) := by unfold peekP; rw [dif_pos (by omega)]; rfl
      obtain ⟨c, hc⟩ : ∃ c, ((T[j]'hjl).toNat : Int) = c := ⟨_, rfl⟩
      obtain ⟨fi, hfi⟩ : ∃ fi, firstIdx ⟨#[9, 10, 13, 32]⟩ c.toNat.toUInt8 = fi := ⟨_, rfl⟩
      have HIX : Hid (∀ w, Calls Tryz.prog 99 #[.string ⟨#[9, 10, 13, 32]⟩, .int .u8 c] w fun e w' => e = .returned (.int .i64 fi) ∧ ∃ m, w' = w.drewN m) := fun w => (index_is ⟨#[9, 10, 13, 32]⟩ c w).mono (fun e w' h => ⟨by rw [h.1, hfi], 0, h.2⟩)
      have hbw := (Array.getElem?_eq_some_iff.1 hsj.choose_spec.choose_spec.1).1
      have HBL : Hid (blankB c = decide (0 ≤ fi)) := by show _ = _; unfold blankB; rw [hfi]
      have HM : Hid (Mv b (j + 1) w (wr.setCell ⟨b, 1, none⟩ (.int .i64 ((j : Int) + 1)))) := hm.out.set (j + 1)
      have HST := hide1 (fun hc' => @skip_step T j hjl hc')
      have HSP := hide1 (fun hc' => @skip_stop T j hc')
      rw [hpk, hc] at HST HSP
      clear hsj hfi hpk
      by_cases hb : 0 ≤ fi
      · have HQ : Hid (skipB T (j + 1) = skipB T k) := (HST.out (by rw [HBL.out]; simpa using hb)).symm.trans hq.out
        clear hq HST HSP
        go_wp2_with (go_quiet ((go_at_call 99; exact Calls.quiet_of (HIX.out _))))
        refine ⟨⟨j + 1, by omega, HQ, (hm.out.drew _).set (j + 1)⟩, ?_⟩
        rw [HP.out]
        refine Nat.lt_of_le_of_lt (m := T.size - (j + 1)) (Nat.le_of_eq ?_) (by omega)
        exact congrArg (T.size - ·) (posW_at (((hm.out.drew _).set (j + 1)).at_ HS.out))
      · have HQ : Hid (j = skipB T k) := (HSP.out (fun e => by rw [HBL.out] at e; simp at e; omega)).symm.trans hq.out
        have hb' : decide (0 ≤ fi) = false := by simpa using hb
        clear hq HST HSP
        go_wp2_with (go_quiet ((go_at_call 99; exact Calls.quiet_of (HIX.out _))))
        go_end0
        exact ⟨rfl, by rw [← HQ.out]; exact hm.out⟩
    · have HQ : Hid (j = skipB T k) := (skip_stop (T := T) (j := j) (fun e => by omega)).symm.trans hq.out
      have hbw := (Array.getElem?_eq_some_iff.1 hsj.choose_spec.choose_spec.1).1
      clear hsj hq
      go_wp2_with (go_quiet (fail))
      go_end0
      exact ⟨rfl, by rw [← HQ.out]; exact hm.out⟩
def slash2 (s : ByteArray) : Bool := decide (2 ≤ s.size) && ((s.extract 0 2).toList == [47, 47])
def slashes (T : ByteArray) (k : Nat) : Bool := slash2 (T.extract k T.size)
theorem slash_byte {T : ByteArray} {k : Nat} (hk : k ≤ T.size) (h : slashes T k = true) : k < T.size ∧ peekP T (k : Int) = 47 := by
  unfold slashes slash2 at h
  simp only [Bool.and_eq_true, decide_eq_true_eq, beq_iff_eq] at h
  obtain ⟨h1, h2⟩ := h
  rw [ByteArray.size_extract] at h1
  have hkl : k < T.size := by omega
  refine ⟨hkl, ?_⟩
  rw [ByteArray.toList_eq] at h2
  have h3 := congrArg (fun l => l[0]?) h2
  simp only [Array.getElem?_toList, List.getElem?_cons_zero, ByteArray.data_extract] at h3
  rw [Array.getElem?_extract, if_pos (by simp; omega), Array.getElem?_extract, if_pos (by simp; omega)] at h3
  unfold peekP
  rw [dif_pos (by omega)]
  have h4 : T.data[k]? = some 47 := by simpa using h3
  obtain ⟨h5, h6⟩ := Array.getElem?_eq_some_iff.1 h4
  show ((T.data[(k : Int).toNat]'_).toNat : Int) = 47
  simp only [Int.toNat_natCast]
  rw [h6]
  rfl
def lineF (T : ByteArray) : Nat → Nat → Nat
  | 0, n => n
  | f + 1, n => if n < T.size ∧ peekP T n ≠ 10 then lineF T f (n + 1) else n
def lineB (T : ByteArray) (k : Nat) : Nat := lineF T (T.size - k) k
theorem line_step {T : ByteArray} {j : Nat} (h : j < T.size) (hc : peekP T j ≠ 10) : lineB T j = lineB T (j + 1) := by
  unfold lineB
  rw [show T.size - j = (T.size - (j + 1)) + 1 by omega, lineF, if_pos ⟨h, hc⟩]
theorem line_stop {T : ByteArray} {j : Nat} (hc : ¬ (j < T.size ∧ peekP T j ≠ 10)) : lineB T j = j := by
  unfold lineB
  by_cases h : j < T.size
  · rw [show T.size - j = (T.size - (j + 1)) + 1 by omega, lineF, if_neg hc]
  · rw [show T.size - j = 0 by omega]
    rfl
theorem skipF_le (T : ByteArray) : ∀ f n, n ≤ skipF T f n ∧ (n ≤ T.size → skipF T f n ≤ T.size)
  | 0, n => ⟨Nat.le_refl n, fun h => h⟩
  | f + 1, n => by
    unfold skipF
    split
    · rename_i h
      have ⟨h1, h2⟩ := skipF_le T f (n + 1)
      exact ⟨by omega, fun _ => h2 (by omega)⟩
    · exact ⟨Nat.le_refl n, fun h => h⟩
theorem lineF_le (T : ByteArray) : ∀ f n, n ≤ lineF T f n ∧ (n ≤ T.size → lineF T f n ≤ T.size)
  | 0, n => ⟨Nat.le_refl n, fun h => h⟩
  | f + 1, n => by
    unfold lineF
    split
    · rename_i h
      have ⟨h1, h2⟩ := lineF_le T f (n + 1)
      exact ⟨by omega, fun _ => h2 (by omega)⟩
    · exact ⟨Nat.le_refl n, fun h => h⟩
def comF (T : ByteArray) : Nat → Nat → Nat
  | 0, n => n
  | f + 1, n => if slashes T n then comF T f (skipB T (lineB T n)) else n
def comB (T : ByteArray) (k : Nat) : Nat := comF T (T.size - skipB T k) (skipB T k)
theorem lhasPre_is (s : ByteArray) (hs : s.size ≤ 100000) (w : World) : Calls Tryz.prog 101 #[.string s, .string ⟨#[47, 47]⟩] w fun e w' => e = .returned (.bool (slash2 s)) ∧ ∃ m, w' = w.drewN m := by
  have gs : (s.size : Int) ≤ 100000 := by omega
  clear hs
  unfold slash2
  go_enter Tryz.func101, Tryz.ntmps101
  by_cases hl : (2 : Int) ≤ (s.size : Int)
  · have hl2 : 2 ≤ s.size := by omega
    go_wp2_with (go_quiet (fail))
    go_ret
    exact ⟨by simp [hl2], 0, rfl⟩
  · have hl2 : ¬ 2 ≤ s.size := by omega
    go_wp2_with (go_quiet (fail))
    go_ret
    exact ⟨by simp, 0, rfl⟩
theorem hasPre_is (s : ByteArray) (hs : s.size ≤ 100000) (w : World) : Calls Tryz.prog 85 #[.string s, .string ⟨#[47, 47]⟩] w fun e w' => e = .returned (.bool (slash2 s)) ∧ ∃ m, w' = w.drewN m := by
  go_enter Tryz.func85, Tryz.ntmps85
  go_wp2_with (go_at_call 101; refine (lhasPre_is s hs _).mono ?_; rintro e w6 ⟨rfl, m, hm⟩; subst hm)
  go_ret
  exact ⟨rfl, m, rfl⟩
theorem ScAt.drewN {w : World} {b k : Nat} {T : ByteArray} (h : ScAt w b T k) (m : Nat) : ScAt (w.drewN m) b T k := h
theorem com_on {T : ByteArray} {j : Nat} (h : j ≤ T.size) (hc : slashes T j = true) : j < skipB T (lineB T j) ∧ skipB T (lineB T j) ≤ T.size := by
  obtain ⟨h1, h2⟩ := slash_byte h hc
  have h3 : lineB T j = lineB T (j + 1) := line_step h1 (by rw [h2]; decide)
  have h4 := lineF_le T (T.size - (j + 1)) (j + 1)
  have h5 := skipF_le T (T.size - lineB T (j + 1)) (lineB T (j + 1))
  have h6 : j + 1 ≤ lineB T (j + 1) := h4.1
  have h7 : lineB T (j + 1) ≤ T.size := h4.2 (by omega)
  have h8 : lineB T (j + 1) ≤ skipB T (lineB T (j + 1)) := h5.1
  have h9 : skipB T (lineB T (j + 1)) ≤ T.size := h5.2 h7
  rw [h3]
  omega
theorem com_fuel {T : ByteArray} : ∀ (f g n : Nat), T.size - n ≤ f → T.size - n ≤ g → n ≤ T.size → comF T f n = comF T g n
  | 0, 0, n, _, _, _ => rfl
  | 0, g + 1, n, h1, h2, h3 => by
    unfold comF
    rw [if_neg (fun e => by have := (slash_byte h3 e).1; omega)]
  | f + 1, 0, n, h1, h2, h3 => by
    unfold comF
    rw [if_neg (fun e => by have := (slash_byte h3 e).1; omega)]
  | f + 1, g + 1, n, h1, h2, h3 => by
    unfold comF
    by_cases hc : slashes T n = true
    · rw [if_pos hc, if_pos hc]
      obtain ⟨h4, h5⟩ := com_on h3 hc
      exact com_fuel f g _ (by omega) (by omega) h5
    · rw [if_neg hc, if_neg hc]
theorem com_step {T : ByteArray} {j : Nat} (h : j ≤ T.size) (hc : slashes T j = true) : comF T (T.size - j) j = comF T (T.size - skipB T (lineB T j)) (skipB T (lineB T j)) := by
  obtain ⟨h4, h5⟩ := com_on h hc
  have h1 := (slash_byte h hc).1
  obtain ⟨f, hf⟩ : ∃ f, T.size - j = f + 1 := ⟨T.size - j - 1, by omega⟩
  have h6 := com_fuel f (T.size - skipB T (lineB T j)) (skipB T (lineB T j)) (by omega) (Nat.le_refl _) h5
  rw [hf, comF, if_pos hc]
  exact h6
theorem com_stop {T : ByteArray} {j : Nat} (hc : ¬ slashes T j = true) : comF T (T.size - j) j = j := by
  cases T.size - j with
  | zero => rfl
  | succ f => rw [comF, if_neg hc]
theorem comments_is (T : ByteArray) (hT : T.size ≤ 100000) (b k : Nat) (w : World) (hs : ScAt w b T k) (hk : k ≤ T.size) :
    Calls Tryz.prog 68 #[.pointer (some ⟨b, 0, none⟩)] w fun e w' => e = .returned (.tuple #[]) ∧ Mv b (comB T k) w w' := by
  have HS := hide1 hs
  have gT : (T.size : Int) ≤ 100000 := by omega
  have HT := hide1 hT
  have HK := hide1 hk
  have hbw := (Array.getElem?_eq_some_iff.1 hs.choose_spec.choose_spec.1).1
  clear hs hT hk
  go_enter Tryz.func68, Tryz.ntmps68
  go_wp2_with (go_at_call 84; refine (blanks_is T HT.out b k _ HS.out HK.out).mono ?_; rintro e w1 ⟨rfl, hm1⟩; have HM1 := hide1 hm1; clear hm1)
  go_loopw [] (fun wr => ∃ j : Nat, j ≤ T.size ∧ Hid (comF T (T.size - j) j = comB T k) ∧ Hid (Mv b j w wr)) (fun wr => T.size - posW wr b)
  case atStart => exact ⟨skipB T k, (skipF_le T _ _).2 HK.out, rfl, HM1.out⟩
  case round =>
    clear HM1
    obtain ⟨j, hj, hq, hm⟩ := hrel
    have HSJ := hide1 (hm.out.at_ HS.out)
    obtain ⟨c0, c1, z1⟩ := HSJ.out.cells
    have hbr := (Array.getElem?_eq_some_iff.1 HSJ.out.choose_spec.choose_spec.1).1
    have HP := hide1 (posW_at HSJ.out)
    have hjI : (j : Int) ≤ (T.size : Int) := by omega
    have HJ := hide1 hj
    obtain ⟨sl, hsl⟩ : ∃ x, slashes T j = x := ⟨_, rfl⟩
    have HPF : Hid (∀ w, Calls Tryz.prog 85 #[.string (T.extract j T.size), .string ⟨#[47, 47]⟩] w fun e w' => e = .returned (.bool sl) ∧ ∃ m, w' = w.drewN m) := fun w => by
      have h := hasPre_is (T.extract j T.size) (by rw [ByteArray.size_extract]; have := HT.out; omega) w
      rw [show slash2 (T.extract j T.size) = sl from hsl] at h
      exact h
    cases sl with
    | true =>
      have HQ := hide1 ((com_step HJ.out hsl).symm.trans hq.out)
      have HON := hide1 (com_on HJ.out hsl)
      clear hq hsl
      go_wp2_with (go_quiet ((go_at_call 85; exact Calls.quiet_of (HPF.out _))))
      go_loopw [] (fun wr => ∃ i : Nat, j ≤ i ∧ i ≤ T.size ∧ Hid (lineB T i = lineB T j) ∧ Hid (Mv b i w wr)) (fun wr => T.size - posW wr b)
      case atStart => exact ⟨j, Nat.le_refl _, HJ.out, rfl, hm.out.drew _⟩
      case round =>
        obtain ⟨i, hji, hi, hl, hm2⟩ := hrel
        have HSI := hide1 (hm2.out.at_ HS.out)
        obtain ⟨e0, e1, y1⟩ := HSI.out.cells
        have hbx := (Array.getElem?_eq_some_iff.1 HSI.out.choose_spec.choose_spec.1).1
        have HPI := hide1 (posW_at HSI.out)
        by_cases hlt : (i : Int) < (T.size : Int)
        · have hil : i < T.size := by omega
          have hpk : peekP T (i : Int) = ((T[i]'hil).toNat : Int) := by unfold peekP; rw [dif_pos (by omega)]; rfl
          obtain ⟨c, hc⟩ : ∃ c, ((T[i]'hil).toNat : Int) = c := ⟨_, rfl⟩
          have HST := hide1 (fun hc' => @line_step T i hil hc')
          have HSP := hide1 (fun hc' => @line_stop T i hc')
          rw [hpk, hc] at HST HSP
          clear hpk
          by_cases h10 : c = 10
          · have HL : Hid (i = lineB T j) := (HSP.out (fun e => e.2 h10)).symm.trans hl.out
            subst h10
            clear HST HSP hl c0 c1 z1
            go_wp2_with (first
              | go_quiet (fail)
              | (go_at_call 84; refine (blanks_is T HT.out b i _ (HSI.out.drewN _) hi).mono ?_; rintro e w7 ⟨rfl, hm7⟩; have HM7 := hide1 hm7; clear hm7))
            refine ⟨⟨skipB T i, ?_, ?_, (hm2.out.drew _).trans HM7.out⟩, ?_⟩
            · rw [HL.out]; exact HON.out.2
            · show _ = _
              rw [HL.out]; exact HQ.out
            · rw [HP.out]
              have h := posW_at (((hm2.out.drew _).trans HM7.out).at_ HS.out)
              rw [h, HL.out]
              have := HON.out
              omega
          · have HL := hide1 ((HST.out h10).symm.trans hl.out)
            have hne : (c != 10) = true := by simpa using h10
            clear HST HSP hl h10 c0 c1 z1
            go_wp2_with (go_quiet (fail))
            refine ⟨⟨i + 1, by omega, by omega, HL, (hm2.out.drew _).set (i + 1)⟩, ?_⟩
            rw [HPI.out]
            refine Nat.lt_of_le_of_lt (m := T.size - (i + 1)) (Nat.le_of_eq ?_) (by omega)
            exact congrArg (T.size - ·) (posW_at (((hm2.out.drew _).set (i + 1)).at_ HS.out))
        · have HL : Hid (i = lineB T j) := (line_stop (T := T) (j := i) (fun e => by omega)).symm.trans hl.out
          clear hl c0 c1 z1
          go_wp2_with (first
            | go_quiet (fail)
            | (go_at_call 84; refine (blanks_is T HT.out b i _ (HSI.out.drewN _) hi).mono ?_; rintro e w7 ⟨rfl, hm7⟩; have HM7 := hide1 hm7; clear hm7))
          refine ⟨⟨skipB T i, ?_, ?_, (hm2.out.drew _).trans HM7.out⟩, ?_⟩
          · rw [HL.out]; exact HON.out.2
          · show _ = _
            rw [HL.out]; exact HQ.out
          · rw [HP.out]
            have h := posW_at (((hm2.out.drew _).trans HM7.out).at_ HS.out)
            rw [h, HL.out]
            have := HON.out
            omega
    | false =>
      have HQ := hide1 ((com_stop (by rw [hsl]; decide)).symm.trans hq.out)
      clear hq hsl
      go_wp2_with (go_quiet ((go_at_call 85; exact Calls.quiet_of (HPF.out _))))
      go_end0
      exact ⟨rfl, by rw [← HQ.out]; exact hm.out.drew _⟩
end Gs
end Ex
end Go.Proofs.YtbnchnlogikecaaGreatDoor
namespace Go.Proofs.YtbnchnlogikecaaGreatDoor
open Go.RowKit
attribute [local go_sem] Oper.semAt_some
set_option maxRecDepth 100000
set_option maxHeartbeats 4000000
namespace Ex
namespace Sh
theorem byte_parts : (Tryz.prog.info? 5).map (fun i => (i.zero, i.size, i.bytes)) = some (some (.int .u8 0), 1, 1) := by kernel_rfl
theorem lclone_is (s : ByteArray) (w : World) (hs : s.size ≤ 281474976710656) : Calls Tryz.prog 47 #[.string s] w fun e w' => e = .returned (.string s) ∧ Kept w w' := by
  by_cases h0 : s.size = 0
  · obtain rfl : s = ⟨#[]⟩ := ByteArray.ext (Array.eq_empty_of_size_eq_zero h0)
    go_enter Tryz.func47, Tryz.ntmps47
    go_wp2
    go_ret
    exact ⟨rfl, Kept.refl _⟩
  obtain ⟨i0, hi, hz0, hz1, hz2⟩ := info_parts byte_parts
  have hsz : (Tryz.prog.info? 5).map (·.size) = some 1 := by rw [hi]; simp [hz1]
  have hone : Tryz.prog.cellsOf 5 = 1 := by kernel_rfl
  obtain ⟨M, hM⟩ : ∃ M, M = madeCells (Value.int .u8 0).cells (((s.size : Nat) : Int).toNat * i0.size) := ⟨_, rfl⟩
  have hms : M.size = s.size := by rw [hM, size_madeCells, hz1]; simp
  have hmk : ∀ W : World, (Instr.makeSlice 100 (.int .i64 (s.size : Int)) (.int .i64 (s.size : Int))).run Tryz.prog W = .ok (.slice (some ⟨W.heap.size, 0, none⟩) s.size s.size) (W.alloc (.cells M 5)) := fun W => by
    have h := run_make (P := Tryz.prog) W 100 5 i0 (.int .u8 0) Tryz.underlying100 hi hz0 .i64 .i64 (s.size : Int) (s.size : Int) (by omega) (by omega) (by rw [hz2]; omega) (by omega)
    rw [← hM] at h
    simpa using h
  clear hM
  have hcp := Lib.run_copy_row_string (P := Tryz.prog) (w.alloc (.cells M 5)) 100 9 3 5 w.heap.size 0 s.size s.size s M 5 Tryz.underlying100 hsz (heap_alloc_new w _) (Nat.le_refl _) (by omega)
  obtain ⟨Y, hY⟩ : ∃ Y, Y = (M.toList.take 0 ++ Lib.byteCells s.data.toList ++ M.toList.drop (0 + s.size)).toArray := ⟨_, rfl⟩
  rw [← hY] at hcp
  have hyl : Y.toList = Lib.byteCells s.data.toList := by
    rw [hY, List.toList_toArray, List.take_zero, List.nil_append, List.drop_of_length_le (by rw [Array.length_toList]; omega), List.append_nil]
  have hys : Y.size = s.size := by rw [← Array.length_toList, hyl, Lib.byteCells_length, ← Lib.size_eq]
  have hgy : ((w.alloc (.cells M 5)).setRow w.heap.size Y).heap[w.heap.size]? = some (.cells Y 5 (0, 0)) := setRow_heap _ _ M _ 5 (0, 0) (heap_alloc_new w _)
  have hne : s.data.toList ≠ [] := fun e => h0 (by rw [Lib.size_eq, e]; rfl)
  have hus := Lib.run_unsafeString_row (P := Tryz.prog) ((w.alloc (.cells M 5)).setRow w.heap.size Y) 127 3 9 5 Tryz.underlying127 hone w.heap.size Y.size (by unfold World.shape?; rw [hgy]) s.data.toList hne (by rw [← Lib.size_eq]; omega) (by rw [← Lib.size_eq]; omega)
    (fun j x hx => Lib.cells_of_row hgy Y.size j _ (by rw [List.take_of_length_le (by rw [Array.length_toList]; exact Nat.le_refl _), hyl]; simp [Lib.byteCells, hx]))
  rw [← Lib.size_eq] at hus
  clear hY
  go_enter Tryz.func47, Tryz.ntmps47
  go_wp2
  go_ret
  have hb1 : Below w.heap.size w (w.alloc (.cells M 5)) := (Below.refl _ w).alloc (Nat.le_refl _) _
  have hb2 : Below w.heap.size (w.alloc (.cells M 5)) ((w.alloc (.cells M 5)).setRow w.heap.size Y) := ⟨rfl, rfl, rfl, by simp, fun k hk => setRow_other _ _ _ _ (by omega)⟩
  exact ⟨rfl, Kept.of (Lib.below_freeze (hb1.trans hb2) (p := ⟨w.heap.size, 0, none⟩) (Nat.le_refl _) _)⟩
theorem clone_is (s : ByteArray) (w : World) (hs : s.size ≤ 281474976710656) : Calls Tryz.prog 35 #[.string s] w fun e w' => e = .returned (.string s) ∧ Kept w w' := by
  go_enter Tryz.func35, Tryz.ntmps35
  go_wp2_with (go_at_call 47; refine (lclone_is _ _ hs).mono ?_; rintro e w6 ⟨rfl, hk⟩)
  go_ret
  exact ⟨rfl, hk⟩
end Sh
end Ex
end Go.Proofs.YtbnchnlogikecaaGreatDoor
