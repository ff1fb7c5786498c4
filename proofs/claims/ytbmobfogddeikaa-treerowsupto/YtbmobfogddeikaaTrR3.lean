import Derived.Test.YtbmobfogddeikaaTrR2
namespace Go.Proofs.Ytbmobfogddeikaa
open Go.RowKit
attribute [local go_sem] Oper.semAt_some
namespace Ex
namespace Tr

theorem wpl_row {ops : Array Oper} {rest : List Oper} {o : Oper} {a : Act} {Q : Exit → Act → World → Prop} (hgd : o.guard = none) (s x : Operand) (ho : o.op = .call { callee := .builtin .append, args := #[s, x], argTypes := #[34, 34] }) (w : World)
    (base : Nat) (v : Value) (l : List Nd) (m : Nat) (hm : l.length = m) (hs : a.eval s = v) (hown : ROwn w base v l) (lb : Nat) (y : Nd) (hx : a.eval x = .slice (some ⟨lb, 0, none⟩) 1 1) (hbx : w.heap[lb]? = some (.cells (rowL y).toArray 46 (0, 0))) (hl : l.length ≤ 4194304) (hbase : base ≤ w.heap.size)
    (h : ∀ g cap w', ROwn w' base (.slice (some ⟨g, 0, none⟩) (m + 1) cap) (l ++ [y]) → w.grownBy w' v.ownBlock → (v.ownBlock = some g ∨ g = w.heap.size) → g < w'.heap.size → wpList Try.prog ops Q rest (a.put o.dst (.slice (some ⟨g, 0, none⟩) (m + 1) cap)) w') :
    wpList Try.prog ops Q (o :: rest) a w := by
  obtain ⟨i0, hi, hz0, hz1, hz2⟩ := info_parts rowt_info
  subst hm
  refine wpList_append_lies w hgd s x 34 ho base 46 i0 _ 6 48 Try.underlying34 hi hz0 hz1 hz2 rfl (by decide) v l.length (flatR l) hs hown ⟨lb, 0, none⟩ 1 1 (rowL y) hx rfl ?_ ?_ (by decide) (by unfold maxLen; omega) (by omega) hbase w.heap.size rfl ?_
  · intro j u hj
    have hj2 : j < 6 := (List.getElem?_eq_some_iff.1 hj).1
    match j, hj2 with
    | 0, _ => rw [← hj]; simp [World.cell?, Addr.add, hbx]
    | 1, _ => rw [← hj]; simp [World.cell?, Addr.add, hbx]
    | 2, _ => rw [← hj]; simp [World.cell?, Addr.add, hbx]
    | 3, _ => rw [← hj]; simp [World.cell?, Addr.add, hbx]
    | 4, _ => rw [← hj]; simp [World.cell?, Addr.add, hbx]
    | 5, _ => rw [← hj]; simp [World.cell?, Addr.add, hbx]
  · intro u hu
    simp only [rowL, List.mem_cons, List.not_mem_nil, or_false] at hu
    rcases hu with rfl | rfl | rfl | rfl | rfl | rfl <;> rfl
  · intro g cap w' h1 h2 h3 h4
    refine h g cap w' ?_ h2 h3 h4
    unfold ROwn
    rw [flatR_app, List.length_append]
    exact h1
theorem ROwn.form {w : World} {base : Nat} {v : Value} {l : List Nd} (h : ROwn w base v l) : ∃ a c, v = .slice a l.length c := by
  rcases h.2 with ⟨rfl, h0⟩ | ⟨g, cap, cur, rfl, _⟩
  · exact ⟨none, 0, by rw [h0]⟩
  · exact ⟨_, _, rfl⟩
/-- A row without its number. -/
def noId (x : Nd) : Nd := { x with num := 0 }

set_option linter.unusedSimpArgs false in
set_option maxRecDepth 100000 in
set_option maxHeartbeats 4000000 in
theorem plain_is (v : Value) (l : List Nd) (w : World) (ha : RowsRd w v l) :
    Calls Try.prog 10 #[v] w fun e w' => (∃ u, e = .returned u ∧ ROwn w' w.heap.size u (l.map noId)) ∧ Kept w w' := by
  obtain ⟨aa, ca, rfl, hla, hra⟩ := ha
  have hlI : (l.length : Int) ≤ 4194304 := by omega
  have HA := hide1 hra
  clear hra
  go_enter Try.func10, Try.ntmps10
  go_wp2_with fail
  go_loopw [3, 4] (fun vo vi wr => ∃ j : Nat, j ≤ l.length ∧ vi = .int .i64 (j : Int) ∧ Hid (ROwn wr w.heap.size vo ((l.take j).map noId) ∧ Kept w wr)) (fun _ vi _ => l.length - (intOf vi).toNat)
  case atStart => exact ⟨0, Nat.zero_le _, rfl, ⟨rfl, Or.inl ⟨rfl, rfl⟩⟩, Kept.refl _⟩
  case round =>
    obtain ⟨j, hj, rfl, HJ⟩ := hrel
    by_cases hlt : j < l.length
    · obtain ⟨x, hx⟩ : ∃ x, l[j]? = some x := ⟨_, List.getElem?_eq_getElem hlt⟩
      obtain ⟨ga, rfl, hca⟩ := HA.out j x hx
      have a0 := grown_cell HJ.out.2 (hca 0 _ rfl)
      have a1 := grown_cell HJ.out.2 (hca 1 _ rfl)
      have a2 := grown_cell HJ.out.2 (hca 2 _ rfl)
      have a3 := grown_cell HJ.out.2 (hca 3 _ rfl)
      have a4 := grown_cell HJ.out.2 (hca 4 _ rfl)
      have a5 := grown_cell HJ.out.2 (hca 5 _ rfl)
      simp only [Nat.add_zero] at a0
      have hjI : (j : Int) < (l.length : Int) := by omega
      obtain ⟨a3, c3, h3⟩ := HJ.out.1.form
      rw [List.length_map, List.length_take, Nat.min_eq_left (by omega)] at h3
      subst h3
      have hlen : ((l.take j).map noId).length = j := by rw [List.length_map, List.length_take, Nat.min_eq_left (by omega)]
      have HLEN := hide1 hlen
      have HX := hide1 hx
      have HO2 : Hid (ROwn ((wr.alloc (.cells #[.int .i64 x.kind, .int .i64 x.n, .int .i64 x.l1, .int .i64 x.l2, .int .i64 (x.kids.length : Int), .int .i64 0] 46)).alloc (.cells #[.int .i64 x.kind, .int .i64 x.n, .int .i64 x.l1, .int .i64 x.l2, .int .i64 (x.kids.length : Int), .int .i64 0] 46)) w.heap.size (.slice a3 j c3) ((l.take j).map noId)) := owns_same HJ.out.1 (fun k hk => by
        have h1 := (ownsRow_lt HJ.out.1 k hk).2
        exact (heap_alloc_old _ _ (Nat.lt_of_lt_of_le h1 (alloc_le wr _))).trans (heap_alloc_old _ _ h1))
      have HB2 : Hid (((wr.alloc (.cells #[.int .i64 x.kind, .int .i64 x.n, .int .i64 x.l1, .int .i64 x.l2, .int .i64 (x.kids.length : Int), .int .i64 0] 46)).alloc (.cells #[.int .i64 x.kind, .int .i64 x.n, .int .i64 x.l1, .int .i64 x.l2, .int .i64 (x.kids.length : Int), .int .i64 0] 46)).heap[wr.heap.size + 1]? = some (.cells (rowL (noId x)).toArray 46 (0, 0))) := by
        have h1 := World.alloc_heap_new (wr.alloc (.cells #[.int .i64 x.kind, .int .i64 x.n, .int .i64 x.l1, .int .i64 x.l2, .int .i64 (x.kids.length : Int), .int .i64 0] 46)) (.cells #[.int .i64 x.kind, .int .i64 x.n, .int .i64 x.l1, .int .i64 x.l2, .int .i64 (x.kids.length : Int), .int .i64 0] 46)
        rw [show (wr.alloc (.cells #[.int .i64 x.kind, .int .i64 x.n, .int .i64 x.l1, .int .i64 x.l2, .int .i64 (x.kids.length : Int), .int .i64 0] 46)).heap.size = wr.heap.size + 1 by simp] at h1
        exact h1
      have hbs := HJ.out.2.size
      clear hca hlen hx
      go_wp2_with (at_builtin; go_must (refine wpl_row rfl _ _ rfl _ w.heap.size _ ((l.take j).map noId) j HLEN.out (by rfl) HO2.out (wr.heap.size + 1) (noId x) (by rfl) HB2.out (by rw [HLEN.out]; omega) (by simp; omega) ?_; intro g5 c5 w5 ho5 hg5 hor5 hl5; have HO5 := hide1 ho5; have HG5 := hide1 hg5; clear ho5 hg5 hor5 hl5))
      go_roundw
      case rel =>
        refine ⟨j + 1, by omega, by go_num, ?_, ?_⟩
        · obtain ⟨hj2, hb2⟩ := List.getElem?_eq_some_iff.1 HX.out
          rw [List.take_succ_eq_append_getElem hj2, hb2, List.map_append]
          exact HO5.out
        · have hk := gtrans HJ.out.2 (((Kept.refl wr).alloc #[.int .i64 x.kind, .int .i64 x.n, .int .i64 x.l1, .int .i64 x.l2, .int .i64 (x.kids.length : Int), .int .i64 0] 46).alloc #[.int .i64 x.kind, .int .i64 x.n, .int .i64 x.l1, .int .i64 x.l2, .int .i64 (x.kids.length : Int), .int .i64 0] 46)
          exact ⟨HG5.out.os.trans hk.1, HG5.out.tape.trans hk.2.1, HG5.out.output.trans hk.2.2.1, Nat.le_trans hk.2.2.2.1 HG5.out.size, fun k hk' => (HG5.out.block k (Nat.lt_of_lt_of_le hk' hk.2.2.2.1) (fun e => by have := (ownsRow_lt HO2.out k e.symm).1; omega)).trans (hk.2.2.2.2 k hk')⟩
      case measure => simp [intOf]; omega
    · have hjL : j = l.length := by omega
      subst hjL
      go_wp2_with fail
      go_ret
      refine ⟨⟨_, rfl, ?_⟩, HJ.out.2⟩
      have h1 := HJ.out.1
      rw [List.take_length] at h1
      exact h1

end Tr
end Ex
end Go.Proofs.Ytbmobfogddeikaa
