import Derived.Test.YtajmbplipjeojaaDoorShU2
namespace Go.Proofs.YtajmbplipjeojaaDoor
open Go.RowKit
attribute [local go_sem] Oper.semAt_some
namespace Ex
namespace Sh

set_option linter.unusedSimpArgs false in
set_option maxRecDepth 100000 in
set_option maxHeartbeats 4000000 in
theorem dQuote_is (a : Option Addr) (n c : Nat) (l : List Int) (w : World) (hl : l.length = n) (hc : n ≤ c) (hS : Src u8E w a l) (hb : ∀ x ∈ l, 0 ≤ x ∧ x < 256) (hn : n ≤ 1000000) :
    Calls Tryd.prog 9 #[.slice a n c] w fun e w' => e = .returned (.string (bs (quoL l))) ∧ Kept w w' := by
  have hnI : (n : Int) ≤ 1000000 := by omega
  have HL := hide1 hl
  have HS := hide1 hS
  have HB := hide1 hb
  obtain ⟨b, hb0⟩ : ∃ b, w.heap.size = b := ⟨_, rfl⟩
  have hbA : b ≤ w.heap.size := by omega
  have HB0 := hide1 hb0
  clear hl hS hb hb0
  go_enter Tryd.func9, Tryd.ntmps9
  go_name_bytes_deep 10 DG hDG
  have eDG : DG = hexS := by rw [← hDG]; decide +kernel
  subst eDG
  clear hDG
  go_wp2_with (at_builtin; go_must (refine wpl_lo (E := u8E) rfl _ _ rfl b (.slice none 0 0) [] 0 rfl (by rfl) (LO.nil _ _) w.heap.size 34 (by rfl) (heap_alloc_new w _) (by show (0 + 1) * 1 ≤ 140737488355328; omega) (by unfold maxLen; omega) (Nat.le_trans hbA ((Kept.refl w).alloc _ _).size) ?_); intro g1 c1 w1 ho1 hg1 hor1 hlt1; have HO1 := hide1 ho1; have HG1 := hide1 (grown_pre0 ((Kept.refl w).alloc _ _) hg1); clear ho1 hg1 hor1 hlt1)
  have HB1 : Hid (Below b w w1) := grown_below0 (Below.refl _ _) HG1.out (fun g hg => by cases hg) hbA
  go_loopw [3, 4] (fun v i wr => ∃ (j m vc : Nat) (va : Option Addr), v = .slice va m vc ∧ i = .int .i64 (j : Int) ∧ j ≤ n ∧ m ≤ 4 * n + 1 ∧ Hid (Below b w wr) ∧ Hid ((34 :: (l.take j).flatMap quoC).length = m) ∧ Hid (LO u8E wr b (.slice va m vc) (34 :: (l.take j).flatMap quoC))) (fun _ i _ => n - (intOf i).toNat)
  case atStart => exact ⟨0, 1, c1, some ⟨g1, 0, none⟩, rfl, rfl, Nat.zero_le _, by omega, HB1.out, by show _ = _; simp, HO1.out⟩
  case round =>
    obtain ⟨j, m, vc, va, rfl, rfl, hj, hm, HBr, HM, HO⟩ := hrel
    have hbr : b ≤ wr.heap.size := by have := HBr.out.size; have := HB0.out; omega
    have HKr : Hid (Kept w wr) := Kept.of (by rw [HB0.out]; exact HBr.out)
    by_cases hlt : (j : Int) < (n : Int)
    · obtain ⟨x, hx⟩ : ∃ x, l[j]? = some x := ⟨_, List.getElem?_eq_getElem (by have := HL.out; omega)⟩
      obtain ⟨g, o, ea, k1⟩ := byte_at (HS.out.keep HKr.out) hx
      subst ea
      have hjc : (j : Int) < (c : Int) := by omega
      have hx01 := HB.out x (List.mem_of_getElem? hx)
      have hx0 := hx01.1
      have hx1 := hx01.2
      have HT := hide1 (quo_take hx)
      obtain ⟨q, hq⟩ : ∃ q, quoC x = q := ⟨_, rfl⟩
      rw [hq] at HT
      have HQ := hide1 hq
      have HQL := hide1 (quoQ_len (j := j + 1) HL.out (by omega))
      rw [HT.out] at HQL
      have HEND : Hid (∀ (qq : List Int) (mm vc9 : Nat) (va9 : Option Addr) (w9 : World), q = qq → m + qq.length = mm → LO u8E w9 b (.slice va9 mm vc9) (34 :: (l.take j).flatMap quoC ++ qq) → wr.grownBy w9 (Value.slice va m vc).ownBlock → mm ≤ 4 * n + 1 ∧ Below b w w9 ∧ (34 :: (l.take (j + 1)).flatMap quoC).length = mm ∧ LO u8E w9 b (.slice va9 mm vc9) (34 :: (l.take (j + 1)).flatMap quoC)) := fun qq mm vc9 va9 w9 e1 e2 h1 h2 => by
        subst e1
        have hlen : (34 :: (l.take (j + 1)).flatMap quoC).length = mm := by
          rw [HT.out, ← List.cons_append, List.length_append, HM.out, e2]
        refine ⟨?_, grown_below0 HBr.out h2 (fun g hg => (HO.out.lt' g hg).1) hbr, hlen, ?_⟩
        · rw [← hlen, HT.out]
          exact HQL.out
        · rw [HT.out, ← List.cons_append]
          exact h1
      clear hx hx01 hq
      by_cases q1 : x = 34
      · subst q1
        go_wp2_with (at_builtin; go_must (refine wpl_many (E := u8E) rfl _ _ rfl b (.slice va m vc) (34 :: (l.take j).flatMap quoC) [92, 34] m 2 (m + 2) HM.out rfl rfl (by rfl) (HO.out.keep ((Kept.refl wr).alloc _ _)) (some ⟨wr.heap.size, 0, none⟩) 2 (by rfl) (src_two wr 92 34) (by show (m + 2) * 1 ≤ 140737488355328; omega) (by unfold maxLen; omega) (Nat.le_trans hbr ((Kept.refl wr).alloc _ _).size) ?_); intro a9 c9 w9 ho9 hg9 hor9; have HO9 := hide1 ho9; have HG9 := hide1 (grown_pre0 ((Kept.refl wr).alloc _ _) hg9); clear ho9 hg9 hor9)
        go_roundw
        case rel =>
          obtain ⟨f1, f2, f3, f4⟩ := HEND.out [92, 34] (m + 2) c9 a9 w9 (by rw [← HQ.out]; rfl) rfl HO9.out HG9.out
          exact ⟨j + 1, (m + 2), c9, a9, by first | rfl | trivial, by go_num, by omega, f1, f2, f3, f4⟩
        case measure => simp [intOf]; omega
      by_cases q2 : x = 92
      · subst q2
        go_wp2_with (at_builtin; go_must (refine wpl_many (E := u8E) rfl _ _ rfl b (.slice va m vc) (34 :: (l.take j).flatMap quoC) [92, 92] m 2 (m + 2) HM.out rfl rfl (by rfl) (HO.out.keep ((Kept.refl wr).alloc _ _)) (some ⟨wr.heap.size, 0, none⟩) 2 (by rfl) (src_two wr 92 92) (by show (m + 2) * 1 ≤ 140737488355328; omega) (by unfold maxLen; omega) (Nat.le_trans hbr ((Kept.refl wr).alloc _ _).size) ?_); intro a9 c9 w9 ho9 hg9 hor9; have HO9 := hide1 ho9; have HG9 := hide1 (grown_pre0 ((Kept.refl wr).alloc _ _) hg9); clear ho9 hg9 hor9)
        go_roundw
        case rel =>
          obtain ⟨f1, f2, f3, f4⟩ := HEND.out [92, 92] (m + 2) c9 a9 w9 (by rw [← HQ.out]; rfl) rfl HO9.out HG9.out
          exact ⟨j + 1, (m + 2), c9, a9, by first | rfl | trivial, by go_num, by omega, f1, f2, f3, f4⟩
        case measure => simp [intOf]; omega
      by_cases q3 : x = 10
      · subst q3
        go_wp2_with (at_builtin; go_must (refine wpl_many (E := u8E) rfl _ _ rfl b (.slice va m vc) (34 :: (l.take j).flatMap quoC) [92, 110] m 2 (m + 2) HM.out rfl rfl (by rfl) (HO.out.keep ((Kept.refl wr).alloc _ _)) (some ⟨wr.heap.size, 0, none⟩) 2 (by rfl) (src_two wr 92 110) (by show (m + 2) * 1 ≤ 140737488355328; omega) (by unfold maxLen; omega) (Nat.le_trans hbr ((Kept.refl wr).alloc _ _).size) ?_); intro a9 c9 w9 ho9 hg9 hor9; have HO9 := hide1 ho9; have HG9 := hide1 (grown_pre0 ((Kept.refl wr).alloc _ _) hg9); clear ho9 hg9 hor9)
        go_roundw
        case rel =>
          obtain ⟨f1, f2, f3, f4⟩ := HEND.out [92, 110] (m + 2) c9 a9 w9 (by rw [← HQ.out]; rfl) rfl HO9.out HG9.out
          exact ⟨j + 1, (m + 2), c9, a9, by first | rfl | trivial, by go_num, by omega, f1, f2, f3, f4⟩
        case measure => simp [intOf]; omega
      by_cases q4 : x = 9
      · subst q4
        go_wp2_with (at_builtin; go_must (refine wpl_many (E := u8E) rfl _ _ rfl b (.slice va m vc) (34 :: (l.take j).flatMap quoC) [92, 116] m 2 (m + 2) HM.out rfl rfl (by rfl) (HO.out.keep ((Kept.refl wr).alloc _ _)) (some ⟨wr.heap.size, 0, none⟩) 2 (by rfl) (src_two wr 92 116) (by show (m + 2) * 1 ≤ 140737488355328; omega) (by unfold maxLen; omega) (Nat.le_trans hbr ((Kept.refl wr).alloc _ _).size) ?_); intro a9 c9 w9 ho9 hg9 hor9; have HO9 := hide1 ho9; have HG9 := hide1 (grown_pre0 ((Kept.refl wr).alloc _ _) hg9); clear ho9 hg9 hor9)
        go_roundw
        case rel =>
          obtain ⟨f1, f2, f3, f4⟩ := HEND.out [92, 116] (m + 2) c9 a9 w9 (by rw [← HQ.out]; rfl) rfl HO9.out HG9.out
          exact ⟨j + 1, (m + 2), c9, a9, by first | rfl | trivial, by go_num, by omega, f1, f2, f3, f4⟩
        case measure => simp [intOf]; omega
      have e1 : (x == 34) = false := beq_eq_false_iff_ne.2 q1
      have e2 : (x == 92) = false := beq_eq_false_iff_ne.2 q2
      have e3 : (x == 10) = false := beq_eq_false_iff_ne.2 q3
      have e4 : (x == 9) = false := beq_eq_false_iff_ne.2 q4
      by_cases q5 : x < 32 ∨ 126 < x
      · have HQ2 : Hid (q = [92, 120, hxd (x / 16), hxd (x % 16)]) := by
          show q = _
          rw [← HQ.out, quoC, if_neg (by omega), if_neg q3, if_neg q4, if_pos q5]
        have hXa : ∀ w, (Instr.index 9 (.string hexS) (.int .u8 (x / 16))).run Tryd.prog w = .ok (.int .u8 (hxd (x / 16))) w := idx_hex .u8 _ (by omega) (by omega)
        have hXb : ∀ w, (Instr.index 9 (.string hexS) (.int .u8 (x % 16))).run Tryd.prog w = .ok (.int .u8 (hxd (x % 16))) w := idx_hex .u8 _ (by omega) (by omega)
        have hdv : IntKind.u8.wrap (x.tdiv 16) = x / 16 := by rw [Int.tdiv_eq_ediv_of_nonneg hx0, IntKind.wrap_u8]; omega
        have hmd : IntKind.u8.wrap (x.tmod 16) = x % 16 := by rw [Int.tmod_eq_emod_of_nonneg hx0, IntKind.wrap_u8]; omega
        have hmd2 : IntKind.u8.wrap (x % 16) = x % 16 := by rw [IntKind.wrap_u8]; omega
        have hmd3 : x.tmod 16 = x % 16 := Int.tmod_eq_emod_of_nonneg hx0
        rcases q5 with q5 | q5
        all_goals
          go_wp2_with fail
          go_region_held3 (fun _ => True) (exact trivial) ((first | (refine step_many (E := u8E) rfl _ _ rfl b (.slice va m vc) (34 :: (l.take j).flatMap quoC) [92, 120, hxd (x / 16), hxd (x % 16)] m 4 (m + 4) HM.out rfl rfl (by rfl) (HO.out.keep (by first | exact (Kept.refl _).alloc _ _ | exact gtrans ((Kept.refl _).alloc _ _) (drew_kept _) | exact Kept.alloc (drew_kept _) _ _ | exact Kept.alloc (drewN_kept _ _) _ _ | exact gtrans (drew_kept _) ((Kept.refl _).alloc _ _))) (some ⟨wr.heap.size, 0, none⟩) 4 (by rfl) (src_four wr 92 120 (hxd (x / 16)) (hxd (x % 16))) (by show (m + 4) * 1 ≤ 140737488355328; omega) (by unfold maxLen; omega) (Nat.le_trans hbr (Kept.size (w := wr) (by first | exact (Kept.refl _).alloc _ _ | exact gtrans ((Kept.refl _).alloc _ _) (drew_kept _) | exact Kept.alloc (drew_kept _) _ _ | exact Kept.alloc (drewN_kept _ _) _ _ | exact gtrans (drew_kept _) ((Kept.refl _).alloc _ _)))) ?_; intro a9 c9 w9 ho9 hg9 hor9; have HO9 := hide1 ho9; have HG9 := hide1 (grown_pre0 (w := wr) (by first | exact (Kept.refl _).alloc _ _ | exact gtrans ((Kept.refl _).alloc _ _) (drew_kept _) | exact Kept.alloc (drew_kept _) _ _ | exact Kept.alloc (drewN_kept _ _) _ _ | exact gtrans (drew_kept _) ((Kept.refl _).alloc _ _)) hg9); clear ho9 hg9 hor9)))
          all_goals
            go_wp2_with fail
            go_roundw
            case rel =>
              obtain ⟨f1, f2, f3, f4⟩ := HEND.out [92, 120, hxd (x / 16), hxd (x % 16)] (m + 4) c9 a9 w9 (HQ2.out) rfl HO9.out HG9.out
              exact ⟨j + 1, (m + 4), c9, a9, by first | rfl | trivial, by go_num, by omega, f1, f2, f3, f4⟩
            case measure => simp [intOf]; omega
      · have HQ2 : Hid (q = [x]) := by
          show q = _
          rw [← HQ.out, quoC, if_neg (by omega), if_neg q3, if_neg q4, if_neg q5]
        have q6 : ¬ x < 32 := by omega
        have q7 : ¬ 126 < x := by omega
        go_wp2_with (at_builtin; go_must (refine wpl_lo (E := u8E) rfl _ _ rfl b (.slice va m vc) (34 :: (l.take j).flatMap quoC) m HM.out (by rfl) (HO.out.keep ((Kept.refl wr).alloc _ _)) wr.heap.size x (by rfl) (heap_alloc_new wr _) (by show (m + 1) * 1 ≤ 140737488355328; omega) (by unfold maxLen; omega) (Nat.le_trans hbr ((Kept.refl wr).alloc _ _).size) ?_); intro g9 c9 w9 ho9 hg9 hor9 hlt9; have HO9 := hide1 ho9; have HG9 := hide1 (grown_pre0 ((Kept.refl wr).alloc _ _) hg9); clear ho9 hg9 hor9 hlt9)
        go_roundw
        case rel =>
          obtain ⟨f1, f2, f3, f4⟩ := HEND.out [x] (m + 1) c9 (some ⟨g9, 0, none⟩) w9 (HQ2.out) rfl HO9.out HG9.out
          exact ⟨j + 1, (m + 1), c9, (some ⟨g9, 0, none⟩), by first | rfl | trivial, by go_num, by omega, f1, f2, f3, f4⟩
        case measure => simp [intOf]; omega
    · have hjn : j = n := by omega
      have HQL : Hid (34 :: (l.take j).flatMap quoC ++ [34] = quoL l) := by
        show _ = _
        rw [List.take_of_length_le (by have := HL.out; omega), List.cons_append]
        rfl
      go_wp2_with (at_builtin; go_must (refine wpl_lo (E := u8E) rfl _ _ rfl b (.slice va m vc) _ m HM.out (by rfl) (HO.out.keep ((Kept.refl wr).alloc _ _)) wr.heap.size 34 (by rfl) (heap_alloc_new wr _) (by show (m + 1) * 1 ≤ 140737488355328; omega) (by unfold maxLen; omega) (Nat.le_trans hbr ((Kept.refl wr).alloc _ _).size) ?_); intro g9 c9 w9 ho9 hg9 hor9 hlt9; rw [HQL.out] at ho9; have hcv : (convert 23 9 (.slice (some ⟨g9, 0, none⟩) (m + 1) c9)).run Tryd.prog w9 = .ok (.string (bs (quoL l))) w9 := (by rw [← strD_bs]; exact src_conv ho9.src (by rw [← HQL.out, List.length_append, HM.out]; rfl)); have HO9 := hide1 ho9; have HG9 := hide1 (grown_pre0 ((Kept.refl wr).alloc _ _) hg9); clear ho9 hg9 hor9 hlt9)
      go_ret
      exact ⟨rfl, Kept.of (by rw [HB0.out]; exact grown_below0 HBr.out HG9.out (fun g hg => (HO.out.lt' g hg).1) hbr)⟩

end Sh
end Ex
end Go.Proofs.YtajmbplipjeojaaDoor
