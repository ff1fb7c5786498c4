import Derived.Test.YtajmbplipjeojaaDoorShU1
import Derived.Test.YtajmbplipjeojaaDoorShQ
import Derived.Laws.MakeOwn
namespace Go.Proofs.YtajmbplipjeojaaDoor
open Go.RowKit
attribute [local go_sem] Oper.semAt_some
namespace Ex
namespace Sh

theorem u8_info0 : (Tryd.prog.info? 5).map (fun i => (i.zero, i.size, i.bytes)) = some (some (.int .u8 0), 1, 1) := by kernel_rfl
theorem make_empty (n : Nat) (hn : n ≤ 1000000) : ∃ M : Array Value, M.size = n + 2 ∧ ∀ W : World, (Instr.makeSlice 23 (.int .i64 0) (.int .i64 ((n : Int) + 2))).run Tryd.prog W = .ok (.slice (some ⟨W.heap.size, 0, none⟩) 0 (n + 2)) (W.alloc (.cells M 5)) := by
  obtain ⟨i0, hi, hz0, hz1, hz2⟩ := info_parts u8_info0
  refine ⟨madeCells (Value.int .u8 0).cells (((n : Int) + 2).toNat * i0.size), ?_, fun W => ?_⟩
  · rw [size_madeCells, hz1]
    simp
    omega
  · have h := run_make (P := Tryd.prog) W 23 5 i0 (.int .u8 0) Tryd.underlying23 hi hz0 .i64 .i64 0 ((n : Int) + 2) (by omega) (by omega) (by rw [hz2]; omega) (by omega)
    rw [h, show ((n : Int) + 2).toNat = n + 2 by omega]
    simp
theorem quo_take {l : List Int} {j : Nat} {x : Int} (hx : l[j]? = some x) : (l.take (j + 1)).flatMap quoC = (l.take j).flatMap quoC ++ quoC x := by
  obtain ⟨h1, h2⟩ := List.getElem?_eq_some_iff.1 hx
  rw [List.take_succ_eq_append_getElem h1, h2, List.flatMap_append]
  simp
theorem byte_at {w : World} {a : Option Addr} {l : List Int} (h : Src u8E w a l) {j : Nat} {x : Int} (hx : l[j]? = some x) : ∃ g o, a = some ⟨g, o, none⟩ ∧ w.cell? ⟨g, o + j, none⟩ = some (.int .u8 x) := by
  rcases h with rfl | ⟨g, o, h1, h2⟩
  · cases hx
  · exact ⟨g, o, h1, h2 j _ (by rw [flat_u8b, List.getElem?_map, hx]; rfl)⟩
theorem quoQ_len {l : List Int} {n j : Nat} (hl : l.length = n) (hj : j ≤ n) : (34 :: (l.take j).flatMap quoC).length ≤ 4 * n + 1 := by
  rw [List.length_cons]
  have := quoC_le (l.take j)
  rw [List.length_take] at this
  omega
set_option linter.unusedSimpArgs false in
set_option maxRecDepth 100000 in
set_option maxHeartbeats 4000000 in
theorem quote_is (a : Option Addr) (n c : Nat) (l : List Int) (w : World) (hl : l.length = n) (hc : n ≤ c) (hS : Src u8E w a l) (hb : ∀ x ∈ l, 0 ≤ x ∧ x < 256) (hn : n ≤ 1000000) :
    Calls Tryd.prog 7 #[.slice a n c] w fun e w' => e = .returned (.string (bs (quoL l))) ∧ Kept w w' := by
  obtain ⟨M, hM, hmk⟩ := make_empty n hn
  have hnI : (n : Int) ≤ 1000000 := by omega
  have HL := hide1 hl
  have HS := hide1 hS
  have HB := hide1 hb
  clear hl hS hb
  go_enter Tryd.func7, Tryd.ntmps7
  go_upto_region 2 with fail
  obtain ⟨b, hb0⟩ : ∃ b, w.heap.size = b := ⟨_, rfl⟩
  obtain ⟨wA, hwA⟩ : ∃ wA, w.alloc (.cells M 5) = wA := ⟨_, rfl⟩
  have HK : Hid (Kept w wA) := by rw [← hwA]; exact (Kept.refl w).alloc _ _
  have HA : Hid (LO u8E wA b (.slice (some ⟨b, 0, none⟩) 0 (n + 2)) []) := by
    rw [← hwA, ← hb0]
    exact World.ownsRow_made w M (n + 2) (Nat.le_refl _) (by unfold maxLen; omega) (by rw [hM]; show n + 2 = (n + 2) * 1; omega)
  have hbA : b ≤ wA.heap.size := by rw [← hb0]; exact HK.out.size
  rw [hwA]
  try rw [hb0]
  have HB0 := hide1 hb0
  clear hwA hb0 hmk hM
  go_wp2_with (at_builtin; go_must (refine wpl_lo (E := u8E) rfl _ _ rfl b (.slice (some ⟨b, 0, none⟩) 0 (n + 2)) [] 0 rfl (by rfl) (HA.out.keep ((Kept.refl wA).alloc _ _)) wA.heap.size 34 (by rfl) (heap_alloc_new wA _) (by show (0 + 1) * 1 ≤ 140737488355328; omega) (by unfold maxLen; omega) (Nat.le_trans hbA ((Kept.refl wA).alloc _ _).size) ?_); intro g1 c1 w1 ho1 hg1 hor1 hlt1; have HO1 := hide1 ho1; have HG1 := hide1 (grown_pre0 ((Kept.refl wA).alloc _ _) hg1); clear ho1 hg1 hor1 hlt1)
  have HB1 : Hid (Below b w w1) := grown_below0 (HB0.out ▸ HK.out.below) HG1.out (fun g hg => (HA.out.lt' g hg).1) hbA
  go_loopw [3, 15] (fun v i wr => ∃ (j m vc : Nat) (va : Option Addr), v = .slice va m vc ∧ i = .int .i64 (j : Int) ∧ j ≤ n ∧ m ≤ 4 * n + 1 ∧ Hid (Below b w wr) ∧ Hid ((34 :: (l.take j).flatMap quoC).length = m) ∧ Hid (LO u8E wr b (.slice va m vc) (34 :: (l.take j).flatMap quoC))) (fun _ i _ => n - (intOf i).toNat)
  case atStart => exact ⟨0, 1, c1, some ⟨g1, 0, none⟩, rfl, rfl, Nat.zero_le _, by omega, HB1.out, by show _ = _; simp, HO1.out⟩
  case round =>
    obtain ⟨j, m, vc, va, rfl, rfl, hj, hm, HBr, HM, HO⟩ := hrel
    have hbr : b ≤ wr.heap.size := by have := HBr.out.size; have := HB0.out; omega
    have HKr : Hid (Kept w wr) := Kept.of (by rw [HB0.out]; exact HBr.out)
    by_cases hlt : (j : Int) < (n : Int)
    · obtain ⟨x, hx⟩ : ∃ x, l[j]? = some x := ⟨_, List.getElem?_eq_getElem (by have := HL.out; omega)⟩
      obtain ⟨g, o, ea, k1⟩ := byte_at (HS.out.keep HKr.out) hx
      subst ea
      have hjc : (j : Int) < (c : Int) := by omega
      have hx01 := HB.out x (List.mem_of_getElem? hx)
      have HT := hide1 (quo_take hx)
      have HC := hide1 (aq_is b (.slice va m vc) _ x wr HO.out (by rw [HM.out]; omega) hbr hx01.1 hx01.2)
      clear hx hx01
      go_wp2_with (go_at_call 13; refine (HC.out).mono ?_; rintro e w6 ⟨v6, rfl, ho6, hg6⟩; have HO6 := hide1 ho6; have HG6 := hide1 hg6; clear ho6 hg6)
      obtain ⟨va6, vc6, hv6⟩ := HO6.out.form
      go_roundw
      case rel =>
        refine ⟨j + 1, _, vc6, va6, hv6, by go_num, by omega, ?_, grown_below0 HBr.out HG6.out (fun g hg => (HO.out.lt' g hg).1) hbr, ?_, ?_⟩
        · have := quoQ_len (j := j + 1) HL.out (by omega)
          rw [HT.out] at this
          simpa using this
        · show _ = _
          rw [HT.out]
          rfl
        · rw [HT.out, ← hv6]
          exact HO6.out
      case measure => simp [intOf]; omega
    · have hjn : j = n := by omega
      have HQL : Hid (34 :: (l.take j).flatMap quoC ++ [34] = quoL l) := by
        show _ = _
        rw [List.take_of_length_le (by have := HL.out; omega), List.cons_append]
        rfl
      go_wp2_with (at_builtin; go_must (refine wpl_lo (E := u8E) rfl _ _ rfl b (.slice va m vc) _ m HM.out (by rfl) (HO.out.keep ((Kept.refl wr).alloc _ _)) wr.heap.size 34 (by rfl) (heap_alloc_new wr _) (by show (m + 1) * 1 ≤ 140737488355328; omega) (by unfold maxLen; omega) (Nat.le_trans hbr ((Kept.refl wr).alloc _ _).size) ?_); intro g9 c9 w9 ho9 hg9 hor9 hlt9; rw [HQL.out] at ho9; have hcv : (convert 23 9 (.slice (some ⟨g9, 0, none⟩) (m + 1) c9)).run Tryd.prog w9 = .ok (.string (bs (quoL l))) w9 := (by rw [← strD_bs]; exact src_conv ho9.src (by rw [← HQL.out, List.length_append, HM.out]; rfl)); have HO9 := hide1 ho9; have HG9 := hide1 (grown_pre0 ((Kept.refl wr).alloc _ _) hg9); clear ho9 hg9 hor9 hlt9)
      go_ret
      exact ⟨rfl, Kept.of (by rw [HB0.out]; exact grown_below0 HBr.out HG9.out (fun g hg => (HO.out.lt' g hg).1) hbr)⟩

end Sh
end Ex
end Go.Proofs.YtajmbplipjeojaaDoor
