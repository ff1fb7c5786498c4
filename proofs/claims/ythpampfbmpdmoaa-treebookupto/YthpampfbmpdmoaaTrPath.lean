import Derived.Test.YthpampfbmpdmoaaTrTo2
import Derived.Deep.DeepMust
namespace Go.Proofs.Ythpampfbmpdmoaa
open Go.RowKit
attribute [local go_sem] Oper.semAt_some
namespace Ex
namespace Tr

theorem intt_info : (Try.prog.info? 3).map (fun i => (i.zero, i.size, i.bytes)) = some (some (.int .i64 0), 1, 8) := by kernel_rfl
def flatI (l : List Nat) : List Value := l.map fun (n : Nat) => .int .i64 (n : Int)
/-- A list of ints, of the call's own. -/
def IOwn (w : World) (base : Nat) (v : Value) (l : List Nat) : Prop := w.ownsRow base 3 1 v l.length (flatI l)
theorem wpl_int {ops : Array Oper} {rest : List Oper} {o : Oper} {a : Act} {Q : Exit → Act → World → Prop} (hgd : o.guard = none) (s x : Operand) (ho : o.op = .call { callee := .builtin .append, args := #[s, x], argTypes := #[40, 40] }) (w : World)
    (base : Nat) (v : Value) (l : List Nat) (m : Nat) (hm : l.length = m) (hs : a.eval s = v) (hown : IOwn w base v l) (lb k : Nat) (hx : a.eval x = .slice (some ⟨lb, 0, none⟩) 1 1) (hbx : w.heap[lb]? = some (.cells #[.int .i64 (k : Int)] 3 (0, 0))) (hl : l.length ≤ 8388608) (hbase : base ≤ w.heap.size)
    (h : ∀ g cap w', IOwn w' base (.slice (some ⟨g, 0, none⟩) (m + 1) cap) (l ++ [k]) → w.grownBy w' v.ownBlock → (v.ownBlock = some g ∨ g = w.heap.size) → g < w'.heap.size → wpList Try.prog ops Q rest (a.put o.dst (.slice (some ⟨g, 0, none⟩) (m + 1) cap)) w') :
    wpList Try.prog ops Q (o :: rest) a w := by
  obtain ⟨i0, hi, hz0, hz1, hz2⟩ := info_parts intt_info
  subst hm
  refine wpList_append_lies w hgd s x 40 ho base 3 i0 _ 1 8 Try.underlying40 hi hz0 hz1 hz2 rfl (by decide) v l.length (flatI l) hs hown ⟨lb, 0, none⟩ 1 1 [.int .i64 (k : Int)] hx rfl ?_ ?_ (by decide) (by unfold maxLen; omega) (by omega) hbase w.heap.size rfl ?_
  · intro j y hj
    have hj2 : j < 1 := (List.getElem?_eq_some_iff.1 hj).1
    match j, hj2 with
    | 0, _ => rw [← hj]; simp [World.cell?, Addr.add, hbx]
  · intro u hu
    rw [List.mem_singleton.1 hu]
    rfl
  · intro g cap w' h1 h2 h3 h4
    refine h g cap w' ?_ h2 h3 h4
    unfold IOwn
    rw [List.length_append]
    unfold flatI
    rw [List.map_append]
    exact h1
def PathI (w : World) (l : List Nat) (v : Value) (wr : World) : Prop := Kept w wr ∧ IOwn wr w.heap.size v l
set_option linter.unusedSimpArgs false in
set_option maxRecDepth 100000 in
set_option maxHeartbeats 2000000 in
theorem path_is (C base : Nat) (wv : Value) (q0 : Nat × Nat × Nat) (ys : List (Nat × Nat × Nat)) (w : World) (hC : CurAt w C wv) (hO : SOwn w base wv (q0 :: ys)) (hl : ys.length ≤ 4194304) :
    Calls Try.prog 13 #[.pointer (some ⟨C, 0, none⟩)] w fun e w' => (∃ v, e = .returned v ∧ IOwn w' w.heap.size v (ys.map fun q => q.2.2)) ∧ Kept w w' := by
  obtain ⟨g, cap, rfl, _, _, hcap, _⟩ := hO.cellsAt (i := 0) (q := q0) rfl
  obtain ⟨c0, _⟩ := hC.cells
  have hCl := hC.lt
  obtain ⟨m, hm⟩ : ∃ m, ys.length = m := ⟨_, rfl⟩
  rw [List.length_cons, hm] at c0 hcap
  have HM := hide1 hm
  have HO := hide1 hO
  have hmI : (m : Int) ≤ 4194304 := by omega
  have hcI : (m : Int) + 1 ≤ (cap : Int) := by omega
  obtain ⟨i0, hi, hz0, hz1, hz2⟩ := info_parts intt_info
  obtain ⟨wM, hmk, hoM, hgM⟩ := run_make_own (P := Try.prog) w w.heap.size 40 3 i0 _ 1 Try.underlying40 hi hz0 hz1 .i64 .i64 m (by rw [hz2]; omega) (by unfold maxLen; omega) (Nat.le_refl _)
  have hkM : Kept w wM := ⟨hgM.os, hgM.tape, hgM.output, hgM.size, fun k hk => hgM.block k hk (by simp)⟩
  have HI0 : Hid (PathI w ((ys.take 0).map fun q => q.2.2) (.slice (some ⟨w.heap.size, 0, none⟩) 0 m) wM) := ⟨hkM, hoM⟩
  have d0 := grown_cell hkM c0
  have HEL : Hid (∀ (i : Nat) (q : Nat × Nat × Nat), ys[i]? = some q → w.cell? ⟨g, (i + 1) * 3, none⟩ = some (.pointer (some ⟨q.1, 0, none⟩)) ∧ w.cell? ⟨g, (i + 1) * 3 + 1, none⟩ = some (.int .i64 (q.2.1 : Int)) ∧ w.cell? ⟨g, (i + 1) * 3 + 2, none⟩ = some (.int .i64 (q.2.2 : Int))) := fun i q hq => by
    obtain ⟨g', cap', he, _, _, _, r0, r1, r2⟩ := hO.cellsAt (i := i + 1) (q := q) (by simpa using hq)
    injection he with he _ _
    injection he with he
    injection he with he
    subst he
    exact ⟨r0, r1, r2⟩
  clear hC hO hm hi hz0 hz1 hz2 hoM hgM hkM
  go_enter Try.func13, Try.ntmps13
  by_cases hc1 : cap = 1
  · have hm0 : m = 0 := by omega
    subst hc1
    subst hm0
    have hys : ys = [] := List.length_eq_zero_iff.1 HM.out
    have HYS := hide1 hys
    clear hys hmI hcI hcap hl
    rw [show (((0 : Nat) : Int)) = 0 from rfl] at hmk
    go_wp2_with fail
    go_loopw [3, 19] (fun v3 vi wr => vi = .int .i64 0 ∧ v3 = .slice (some ⟨w.heap.size, 0, none⟩) 0 0 ∧ wr = wM) (fun _ _ _ => 0)
    case atStart => exact ⟨rfl, rfl, rfl⟩
    case round =>
      obtain ⟨rfl, rfl, hwr⟩ := hrel
      have hwr := hwr.symm
      subst hwr
      go_wp2_with fail
      go_ret
      have h := HI0.out
      rw [HYS.out] at h ⊢
      exact ⟨⟨_, rfl, h.2⟩, h.1⟩
  · have hc1I : ¬ ((cap : Int) = 1) := by omega
    go_wp2_with fail
    go_loopw [3, 19] (fun v3 vi wr => ∃ j : Nat, j ≤ m ∧ vi = .int .i64 (j : Int) ∧ (∃ a c, v3 = .slice a j c) ∧ Hid (PathI w ((ys.take j).map fun q => q.2.2) v3 wr)) (fun _ vi _ => m - (intOf vi).toNat)
    case atStart => exact ⟨0, Nat.zero_le _, rfl, ⟨_, _, rfl⟩, HI0⟩
    case round =>
      obtain ⟨j, hj, rfl, ⟨va, vc, rfl⟩, HI⟩ := hrel
      clear HI0
      by_cases hlt : j < m
      · obtain ⟨q, hq⟩ : ∃ q, ys[j]? = some q := ⟨_, List.getElem?_eq_getElem (by have := HM.out; omega)⟩
        obtain ⟨r0, r1, r2⟩ := HEL.out j q hq
        have t0 := grown_cell HI.out.1 r0
        have t1 := grown_cell HI.out.1 r1
        have t2 := grown_cell HI.out.1 r2
        have e3 : (j + 1) * 3 = 3 + j * 3 := by omega
        rw [e3] at t0 t1 t2
        have hjI : (j : Int) < (m : Int) := by omega
        have HTK : Hid ((ys.take (j + 1)).map (fun q => q.2.2) = (ys.take j).map (fun q => q.2.2) ++ [q.2.2]) := by
          obtain ⟨h2, h3⟩ := List.getElem?_eq_some_iff.1 hq
          show _ = _
          rw [List.take_succ_eq_append_getElem h2, List.map_append, h3]
          rfl
        have HLN : Hid (((ys.take j).map (fun q => q.2.2)).length = j) := by show _ = _; rw [List.length_map, List.length_take, HM.out]; omega
        obtain ⟨qa, qb, qc⟩ := q
        dsimp only at t0 t1 t2 HTK
        clear r0 r1 r2 hq e3
        go_upto_region 5 with fail
        obtain ⟨wA, hwA⟩ : ∃ wA, wr.alloc (.cells #[.pointer (some ⟨qa, 0, none⟩), .int .i64 (qb : Int), .int .i64 (qc : Int)] 76) = wA := ⟨_, rfl⟩
        have hkA : Kept wr wA := by rw [← hwA]; exact (Kept.refl wr).alloc _ _
        have hbA : wA.heap[wr.heap.size]? = some (.cells #[.pointer (some ⟨qa, 0, none⟩), .int .i64 (qb : Int), .int .i64 (qc : Int)] 76 (0, 0)) := by rw [← hwA]; exact World.alloc_heap_new wr _
        have b2 : wA.cell? ⟨wr.heap.size, 2, none⟩ = some (.int .i64 (qc : Int)) := by simp [World.cell?, hbA]
        have HIA : Hid (PathI w ((ys.take j).map fun q => q.2.2) (.slice va j vc) wA) := ⟨gtrans HI.out.1 hkA, owns_same HI.out.2 (fun d hd => hkA.2.2.2.2 d (HI.out.2.lt d hd).2)⟩
        rw [hwA]
        clear hwA hkA hbA t0 t1 t2 HI
        go_wp2_with (at_builtin; go_must (refine wpl_int rfl _ _ rfl _ w.heap.size _ _ j HLN.out (by rfl) (owns_same (w' := wA.alloc (.cells #[.int .i64 (qc : Int)] 3)) HIA.out.2 (fun d hd => heap_alloc_old wA _ (HIA.out.2.lt d hd).2)) wA.heap.size qc (by rfl) (World.alloc_heap_new wA _) (by rw [HLN.out]; omega) (by exact Nat.le_trans HIA.out.1.size (alloc_le wA _)) ?_; intro g9 c9 w9 ho9 hg9 hor9 hl9; have HO9 := hide1 ho9; have HG9 := hide1 hg9; clear ho9 hg9 hor9 hl9))
        go_roundw
        case rel =>
          refine ⟨j + 1, by omega, by go_num, ⟨_, _, rfl⟩, ?_, ?_⟩
          · have h1 := HIA.out.1
            have h2 := HG9.out
            refine ⟨h2.os.trans h1.1, h2.tape.trans h1.2.1, h2.output.trans h1.2.2.1, Nat.le_trans h1.size (Nat.le_trans (alloc_le wA _) h2.size), fun k hk => (h2.block k (by simp; have := h1.size; omega) (fun e => by have := (HIA.out.2.lt k e.symm).1; omega)).trans ((heap_alloc_old wA _ (Nat.lt_of_lt_of_le hk h1.size)).trans (h1.2.2.2.2 k hk))⟩
          · rw [HTK.out]
            exact HO9.out
        case measure => simp [intOf]; omega
      · have hjj : j = m := by omega
        subst hjj
        go_wp2_with fail
        go_ret
        have h := HI.out
        rw [List.take_of_length_le (by rw [HM.out]; exact Nat.le_refl _)] at h
        exact ⟨⟨_, rfl, h.2⟩, h.1⟩

end Tr
end Ex
end Go.Proofs.Ythpampfbmpdmoaa
