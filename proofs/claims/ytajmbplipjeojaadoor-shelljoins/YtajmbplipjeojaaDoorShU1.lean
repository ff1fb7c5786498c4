import Derived.Test.YtajmbplipjeojaaDoorShU0
import Derived.Deep.RegionHeld3
import Derived.Lib.ItoaWalk
namespace Go.Proofs.YtajmbplipjeojaaDoor
open Go.RowKit
attribute [local go_sem] Oper.semAt_some
namespace Ex
namespace Sh

theorem grown_pre0 {w w1 w2 : World} {row : Option Nat} (h1 : Kept w w1) (h2 : w1.grownBy w2 row) : w.grownBy w2 row :=
  ⟨h2.os.trans h1.1, h2.tape.trans h1.2.1, h2.output.trans h1.2.2.1, Nat.le_trans h1.size h2.size, fun k hk hn => (h2.block k (Nat.lt_of_lt_of_le hk h1.size) hn).trans (h1.2.2.2.2 k hk)⟩
/-- A row of bytes has grown. -/
def AqR (base : Nat) (w : World) (v : Value) (l : List Int) (e : Ending) (w' : World) : Prop := ∃ v', e = .returned v' ∧ LO u8E w' base v' l ∧ w.grownBy w' v.ownBlock
set_option linter.unusedSimpArgs false in
set_option maxRecDepth 100000 in
set_option maxHeartbeats 4000000 in
theorem aq_is (base : Nat) (v : Value) (l : List Int) (c : Int) (w : World) (h : LO u8E w base v l) (hl : l.length ≤ 1000000000000) (hbase : base ≤ w.heap.size) (hc0 : 0 ≤ c) (hc1 : c < 256) :
    Calls Tryd.prog 13 #[v, .int .u8 c] w (AqR base w v (l ++ quoC c)) := by
  obtain ⟨n, hn⟩ : ∃ n, l.length = n := ⟨_, rfl⟩
  obtain ⟨va, vc, rfl⟩ : ∃ a c, v = .slice a n c := by rw [← hn]; exact h.form
  have HO := hide1 h
  have HN := hide1 hn
  rw [hn] at hl
  obtain ⟨q, hq⟩ : ∃ q, quoC c = q := ⟨_, rfl⟩
  rw [hq]
  have HQ := hide1 hq
  clear h hn hq
  by_cases q1 : c = 92
  · subst q1
    go_enter Tryd.func13, Tryd.ntmps13
    go_wp2_with (at_builtin; go_must (refine wpl_many (E := u8E) rfl _ _ rfl base (.slice va n vc) l [92, 92] n 2 (n + 2) HN.out rfl rfl (by rfl) (HO.out.keep ((Kept.refl w).alloc _ _)) (some ⟨w.heap.size, 0, none⟩) 2 (by rfl) (src_two w 92 92) (by show (n + 2) * 1 ≤ 140737488355328; omega) (by unfold maxLen; omega) (Nat.le_trans hbase ((Kept.refl w).alloc _ _).size) ?_); intro a9 c9 w9 ho9 hg9 hor9; have HO9 := hide1 ho9; have HG9 := hide1 (grown_pre0 ((Kept.refl w).alloc _ _) hg9); clear ho9 hg9 hor9)
    go_ret
    rw [← HQ.out]
    exact ⟨_, rfl, HO9.out, HG9.out⟩
  by_cases q2 : c = 34
  · subst q2
    go_enter Tryd.func13, Tryd.ntmps13
    go_wp2_with (at_builtin; go_must (refine wpl_many (E := u8E) rfl _ _ rfl base (.slice va n vc) l [92, 34] n 2 (n + 2) HN.out rfl rfl (by rfl) (HO.out.keep ((Kept.refl w).alloc _ _)) (some ⟨w.heap.size, 0, none⟩) 2 (by rfl) (src_two w 92 34) (by show (n + 2) * 1 ≤ 140737488355328; omega) (by unfold maxLen; omega) (Nat.le_trans hbase ((Kept.refl w).alloc _ _).size) ?_); intro a9 c9 w9 ho9 hg9 hor9; have HO9 := hide1 ho9; have HG9 := hide1 (grown_pre0 ((Kept.refl w).alloc _ _) hg9); clear ho9 hg9 hor9)
    go_ret
    rw [← HQ.out]
    exact ⟨_, rfl, HO9.out, HG9.out⟩
  by_cases q3 : c = 10
  · subst q3
    go_enter Tryd.func13, Tryd.ntmps13
    go_wp2_with (at_builtin; go_must (refine wpl_many (E := u8E) rfl _ _ rfl base (.slice va n vc) l [92, 110] n 2 (n + 2) HN.out rfl rfl (by rfl) (HO.out.keep ((Kept.refl w).alloc _ _)) (some ⟨w.heap.size, 0, none⟩) 2 (by rfl) (src_two w 92 110) (by show (n + 2) * 1 ≤ 140737488355328; omega) (by unfold maxLen; omega) (Nat.le_trans hbase ((Kept.refl w).alloc _ _).size) ?_); intro a9 c9 w9 ho9 hg9 hor9; have HO9 := hide1 ho9; have HG9 := hide1 (grown_pre0 ((Kept.refl w).alloc _ _) hg9); clear ho9 hg9 hor9)
    go_ret
    rw [← HQ.out]
    exact ⟨_, rfl, HO9.out, HG9.out⟩
  by_cases q4 : c = 9
  · subst q4
    go_enter Tryd.func13, Tryd.ntmps13
    go_wp2_with (at_builtin; go_must (refine wpl_many (E := u8E) rfl _ _ rfl base (.slice va n vc) l [92, 116] n 2 (n + 2) HN.out rfl rfl (by rfl) (HO.out.keep ((Kept.refl w).alloc _ _)) (some ⟨w.heap.size, 0, none⟩) 2 (by rfl) (src_two w 92 116) (by show (n + 2) * 1 ≤ 140737488355328; omega) (by unfold maxLen; omega) (Nat.le_trans hbase ((Kept.refl w).alloc _ _).size) ?_); intro a9 c9 w9 ho9 hg9 hor9; have HO9 := hide1 ho9; have HG9 := hide1 (grown_pre0 ((Kept.refl w).alloc _ _) hg9); clear ho9 hg9 hor9)
    go_ret
    rw [← HQ.out]
    exact ⟨_, rfl, HO9.out, HG9.out⟩
  have e1 : (c == 92) = false := beq_eq_false_iff_ne.2 q1
  have e2 : (c == 34) = false := beq_eq_false_iff_ne.2 q2
  have e3 : (c == 10) = false := beq_eq_false_iff_ne.2 q3
  have e4 : (c == 9) = false := beq_eq_false_iff_ne.2 q4
  by_cases q5 : c < 32 ∨ 127 ≤ c
  · have HQ2 : Hid (q = [92, 120, hxd (c / 16), hxd (c % 16)]) := by
      show q = _
      rw [← HQ.out, quoC, if_neg (by omega), if_neg q3, if_neg q4, if_pos (by omega)]
    go_enter Tryd.func13, Tryd.ntmps13
    go_name_bytes_deep 10 DG hDG
    have eDG : DG = hexS := by rw [← hDG]; decide +kernel
    subst eDG
    clear hDG
    have hXa : ∀ w, (Instr.index 9 (.string hexS) (.int .u8 (c / 16))).run Tryd.prog w = .ok (.int .u8 (hxd (c / 16))) w := idx_hex .u8 _ (by omega) (by omega)
    have hXb : ∀ w, (Instr.index 9 (.string hexS) (.int .u8 (c % 16))).run Tryd.prog w = .ok (.int .u8 (hxd (c % 16))) w := idx_hex .u8 _ (by omega) (by omega)
    have e15 := and15 c hc0 hc1
    have hX2 : ∀ w, (Instr.index 9 (.string hexS) (.int .u8 (bits BinOp.and IntKind.u8 c 15))).run Tryd.prog w = .ok (.int .u8 (hxd (c % 16))) w := fun w => by rw [e15]; exact idx_hex .u8 _ (by omega) (by omega) w
    clear e15
    rcases q5 with q5 | q5
    all_goals
      go_wp2_with fail
      go_region_held3 (fun _ => True) (exact trivial) ((first | (refine step_many (E := u8E) rfl _ _ rfl base (.slice va n vc) l [92, 120, hxd (c / 16), hxd (c % 16)] n 4 (n + 4) HN.out rfl rfl (by rfl) (HO.out.keep (by first | exact (Kept.refl _).alloc _ _ | exact gtrans ((Kept.refl _).alloc _ _) (drew_kept _) | exact Kept.alloc (drew_kept _) _ _ | exact Kept.alloc (drewN_kept _ _) _ _ | exact gtrans (drew_kept _) ((Kept.refl _).alloc _ _))) (some ⟨w.heap.size, 0, none⟩) 4 (by rfl) (src_four w 92 120 (hxd (c / 16)) (hxd (c % 16))) (by show (n + 4) * 1 ≤ 140737488355328; omega) (by unfold maxLen; omega) (Nat.le_trans hbase (Kept.size (w := w) (by first | exact (Kept.refl _).alloc _ _ | exact gtrans ((Kept.refl _).alloc _ _) (drew_kept _) | exact Kept.alloc (drew_kept _) _ _ | exact Kept.alloc (drewN_kept _ _) _ _ | exact gtrans (drew_kept _) ((Kept.refl _).alloc _ _)))) ?_; intro a9 c9 w9 ho9 hg9 hor9; have HO9 := hide1 ho9; have HG9 := hide1 (grown_pre0 (w := w) (by first | exact (Kept.refl _).alloc _ _ | exact gtrans ((Kept.refl _).alloc _ _) (drew_kept _) | exact Kept.alloc (drew_kept _) _ _ | exact Kept.alloc (drewN_kept _ _) _ _ | exact gtrans (drew_kept _) ((Kept.refl _).alloc _ _)) hg9); clear ho9 hg9 hor9)))
      all_goals
        go_wp2_with fail
        go_ret
        rw [HQ2.out]
        exact ⟨_, rfl, HO9.out, HG9.out⟩
  · have HQ2 : Hid (q = [c]) := by
      show q = _
      rw [← HQ.out, quoC, if_neg (by omega), if_neg q3, if_neg q4, if_neg (by omega)]
    have q6 : ¬ c < 32 := by omega
    have q7 : ¬ 127 ≤ c := by omega
    go_enter Tryd.func13, Tryd.ntmps13
    go_wp2_with (at_builtin; go_must (refine wpl_lo (E := u8E) rfl _ _ rfl base (.slice va n vc) l n HN.out (by rfl) (HO.out.keep ((Kept.refl w).alloc _ _)) w.heap.size c (by rfl) (heap_alloc_new w _) (by show (n + 1) * 1 ≤ 140737488355328; omega) (by unfold maxLen; omega) (Nat.le_trans hbase ((Kept.refl w).alloc _ _).size) ?_); intro g9 c9 w9 ho9 hg9 hor9 hlt9; have HO9 := hide1 ho9; have HG9 := hide1 (grown_pre0 ((Kept.refl w).alloc _ _) hg9); clear ho9 hg9 hor9 hlt9)
    go_ret
    rw [HQ2.out]
    exact ⟨_, rfl, HO9.out, HG9.out⟩

end Sh
end Ex
end Go.Proofs.YtajmbplipjeojaaDoor
