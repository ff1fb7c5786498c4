import Derived.Test.YtajmbplipjeojaaDoorShL
import Derived.Deep.Cut
import Derived.Scope
namespace Go.Proofs.YtajmbplipjeojaaDoor
open Go.RowKit
attribute [local go_sem] Oper.semAt_some
namespace Ex
namespace Sh

theorem noGoto_ret {Q : Exit → Act → World → Prop} {a : Act} {w : World} (h : Q .ret a w) : Exit.noGoto Q .ret a w := h
theorem inBlock_ret {Q : Exit → Act → World → Prop} {a : Act} {w : World} {i : Nat} (h : Q .ret a w) : Exit.inBlock i Q .ret a w := h
set_option maxRecDepth 100000 in
set_option maxHeartbeats 4000000 in
theorem irune_hi (r : Int) (w : World) (h1 : 128 ≤ r) (hv : Utf8.valid r = true) (hn : r ≠ 65533) : Calls Tryd.prog 36 #[.string blankS, .int .i32 r] w fun e w' => e = .returned (.int .i64 (-1)) ∧ Kept w w' := by
  obtain ⟨f1, f2, f3⟩ := encode_facts r hv h1
  have hvr : (0 ≤ r ∧ r < 55296) ∨ (57343 < r ∧ r ≤ 1114111) := by
    rw [validRune_eq, validRune] at hv; exact of_decide_eq_true hv
  generalize hE : Utf8.encode r = E at *
  have f3' := f3 (by omega)
  clear f3 hv
  have g1 : ¬ r < 128 := by omega
  have g2 : (r == 65533) = false := beq_eq_false_iff_ne.2 hn
  go_enter Tryd.func36, Tryd.ntmps36
  go_wp2_with (first | (go_at_call 40; refine (indexByte_is _ _ _).mono ?_; rintro e w6 ⟨rfl, rfl⟩) | go_in)
  all_goals
    clear hvr
    refine wp_scope_straight ?_
    by_cases hE2 : E.size = 2
    · have hl1 : E.size - 1 = 1 := by omega
      have f4 : 128 ≤ (E[1]'(by omega)).toNat := by
        have := f3'
        simp only [hl1] at this
        exact this
      have hfi : ∀ c : UInt8, 128 ≤ c.toNat → firstIdx (blankS.extract 2 2) c = -1 := fun c hc => firstIdx_ascii blankS 2 2 c (by decide) hc
      have hbs : blankS.size = 2 := by decide
      have hw2 : IntKind.i64.wrap 2 = 2 := by decide
      have HF := hide1 hfi
      clear hfi f3' hl1
      have hq1 : (((blankS[1]'(by decide)).toNat : Int) != ((E[1]'(by omega)).toNat : Int)) = true := by
        have : (blankS[1]'(by decide)).toNat = 9 := by decide
        rw [this]
        simp
        omega
      go_wp2
      go_loopw [9, 10] (fun i f wr => i = .int .i64 1 ∧ f = .int .i64 0 ∧ wr = w) (fun _ _ _ => 0)
      case atStart => exact ⟨rfl, rfl, rfl⟩
      case round =>
        obtain ⟨rfl, rfl, rfl⟩ := hrel
        go_wp2
        refine wp_scope_straight ?_
        go_wp2
        go_quiet (fail)
        obtain ⟨w1, hw1⟩ : ∃ w1, w1 = wr.drewN nq := ⟨_, rfl⟩
        rw [← hw1]
        have HK1 := hide1 (show Kept wr w1 by rw [hw1]; exact drewN_kept _ _)
        clear hw1
        go_wp2
        have hidx : ∀ W : World, Calls Tryd.prog 40 #[.string ByteArray.empty, .int .u8 ((E[1]'(by omega)).toNat : Int)] W fun e w' => e = .returned (.int .i64 (-1)) ∧ w' = W := fun W => by
          refine (indexByte_is ByteArray.empty ((E[1]'(by omega)).toNat : Int) W).mono ?_
          rintro e w' ⟨rfl, rfl⟩
          exact ⟨by rw [show firstIdx ByteArray.empty (((E[1]'(by omega)).toNat : Int).toNat.toUInt8) = -1 from firstIdx_none _ _ (by intro b hb; simp at hb)], rfl⟩
        go_quiet ((go_at_call 40; exact Calls.quiet_of_same (hidx _)))
        go_wp2
        show bodyPost Tryd.prog Tryd.f36 (fun e w' => e = .returned (.int .i64 (-1)) ∧ Kept wr w') Exit.ret _ _
        go_ret
        exact ⟨rfl, gtrans HK1.out (drewN_kept _ _)⟩
    · have hl1 : ¬ (E.size : Int) - 1 < (blankS.size : Int) := by rw [show (blankS.size : Int) = 2 by decide]; omega
      go_wp2
      go_loopw [9, 10] (fun i f wr => i = .int .i64 ((E.size : Int) - 1) ∧ f = .int .i64 0 ∧ wr = w) (fun _ _ _ => 0)
      case atStart => exact ⟨rfl, rfl, rfl⟩
      case round =>
        obtain ⟨rfl, rfl, rfl⟩ := hrel
        go_wp2
        show bodyPost Tryd.prog Tryd.f36 (fun e w' => e = .returned (.int .i64 (-1)) ∧ Kept wr w') Exit.ret _ _
        go_ret
        exact ⟨rfl, Kept.refl _⟩

set_option maxRecDepth 100000 in
set_option maxHeartbeats 4000000 in
theorem irune_bad (w : World) : Calls Tryd.prog 36 #[.string blankS, .int .i32 65533] w fun e w' => e = .returned (.int .i64 (-1)) ∧ Kept w w' := by
  go_enter Tryd.func36, Tryd.ntmps36
  go_wp2
  go_loopw [] (fun wr => ∃ pos : Nat, pos ≤ 2 ∧ wr.heap[w.heap.size]? = some (.stringIter blankS pos) ∧ Below w.heap.size w wr) (fun wr => 2 - wr.iterPos w.heap.size)
  case atStart => exact ⟨0, by omega, World.iter_heap w blankS 0, (Below.refl _ w).alloc (Nat.le_refl _) _⟩
  case round =>
    obtain ⟨pos, hp, hit, hbw⟩ := hrel
    by_cases hlt : pos < 2
    · have hnx : ∀ ty, (Instr.next (.pointer (some ⟨w.heap.size, 0, none⟩)) true ty).run Tryd.prog wr = _ := fun ty => Lib.run_next_any_at wr w.heap.size blankS pos ty hit hlt
      have hd : (Utf8.decode blankS pos).1 < 128 ∧ (Utf8.decode blankS pos).2 = 1 := by
        obtain rfl | rfl : pos = 0 ∨ pos = 1 := by omega
        · decide +kernel
        · decide +kernel
      obtain ⟨hd1, hd2⟩ := hd
      rw [hd2] at hnx
      have hit2 := Lib.iterAt_heap wr w.heap.size blankS pos (pos + 1) hit
      have hbw2 := Lib.below_iterAt hbw (k := w.heap.size) (by omega) blankS (pos + 1)
      generalize (Utf8.decode blankS pos).1 = x at *
      have hx : ((x : Int) == 65533) = false := beq_eq_false_iff_ne.2 (by omega)
      clear hd2
      go_wp2
      go_roundw
      case rel => exact ⟨pos + 1, by omega, hit2, hbw2⟩
      case measure =>
        simp only [World.iterPos, hit2, hit]
        omega
    · have hnx : ∀ ty, (Instr.next (.pointer (some ⟨w.heap.size, 0, none⟩)) true ty).run Tryd.prog wr = _ := fun ty => Lib.run_next_end_at wr w.heap.size blankS pos ty hit hlt
      go_wp2
      go_ret
      exact ⟨rfl, Kept.of hbw⟩

set_option maxRecDepth 100000 in
set_option maxHeartbeats 2000000 in
theorem crune_hi (r : Int) (w : World) (h1 : 128 ≤ r) (hv : Utf8.valid r = true) : Calls Tryd.prog 31 #[.string blankS, .int .i32 r] w fun e w' => e = .returned (.bool false) ∧ Kept w w' := by
  have hi : Calls Tryd.prog 36 #[.string blankS, .int .i32 r] w fun e w' => e = .returned (.int .i64 (-1)) ∧ Kept w w' := by
    by_cases hn : r = 65533
    · rw [hn]; exact irune_bad w
    · exact irune_hi r w h1 hv hn
  go_enter Tryd.func31, Tryd.ntmps31
  go_wp2_with (go_at_call 36; refine hi.mono ?_; rintro e w6 ⟨rfl, hk⟩)
  go_ret
  exact ⟨rfl, hk⟩

end Sh
end Ex
end Go.Proofs.YtajmbplipjeojaaDoor
