import Derived.Test.YthpampfbmpdmoaaMTrB1
import Derived.Test.YthpampfbmpdmoaaTrRows
import Derived.BigQuiet
namespace Go.Proofs.Ythpampfbmpdmoaa
open Go.RowKit
attribute [local go_sem] Oper.semAt_some
namespace Ex
namespace Tr
namespace Bk

def KI : GrK := ⟨3, 40, 1, by decide, by decide, fun i k => [.int .i64 (100000 * (i : Int) + (k : Int))], fun i k => [.int .i64 (-1 - 100 * (i : Int) - (k : Int))]⟩
theorem intst_info : (Try.prog.info? 40).map (fun i => (i.zero, i.size, i.bytes)) = some (some (.slice none 0 0), 1, 24) := by kernel_rfl
theorem grown_ints_add {ops : Array Oper} {rest : List Oper} {o : Oper} {a : Act} {Q : Exit → Act → World → Prop} (hgd : o.guard = none) (s x : Operand)
    (ho : o.op = .call { callee := .builtin .append, args := #[s, x], argTypes := #[66, 66] }) (w W : World) (hW : Kept w W) (n0 : Nat) (vP : Value) (n : Nat) (ps : List Value) (hs : a.eval s = vP) (hown : w.ownsRow n0 40 1 vP n ps)
    (q : Option Addr) (k cq : Nat) (lb : Nat) (hx : a.eval x = .slice (some ⟨lb, 0, none⟩) 1 1) (hc : W.heap[lb]? = some (.cells #[.slice q k cq] 40 (0, 0))) (hn : n ≤ 2000000000) (hb : n0 ≤ w.heap.size)
    (h : ∀ g cap w', w'.ownsRow n0 40 1 (.slice (some ⟨g, 0, none⟩) (n + 1) cap) (n + 1) (ps ++ [.slice q k cq]) → W.grownBy w' vP.ownBlock → (vP.ownBlock = some g ∨ g = W.heap.size) → g < w'.heap.size → wpList Try.prog ops Q rest (a.put o.dst (.slice (some ⟨g, 0, none⟩) (n + 1) cap)) w') : wpList Try.prog ops Q (o :: rest) a W := by
  obtain ⟨i0, hi, hz0, hz1, hz2⟩ := info_parts intst_info
  have hown' : W.ownsRow n0 40 1 vP n ps := owns_same hown (fun g hg => hW.2.2.2.2 g (owns_lt hown g hg))
  refine wpList_append_lies W hgd s x 66 ho n0 40 i0 (.slice none 0 0) 1 24 Try.underlying66 hi hz0 hz1 hz2 rfl (by decide) vP n ps hs hown' ⟨lb, 0, none⟩ 1 1 [.slice q k cq] hx rfl ?_ (by intro u hu; simp at hu; subst hu; rfl) (by decide) (by unfold maxLen; omega) (by omega) (Nat.le_trans hb hW.size) W.heap.size rfl
    (fun g cap w' h1 h2 h3 h4 => h g cap w' h1 h2 h3 h4)
  intro j y hj
  have hj2 : j < 1 := (List.getElem?_eq_some_iff.1 hj).1
  match j, hj2 with
  | 0, _ => rw [← hj]; simp [World.cell?, Addr.add, hc]
set_option linter.unusedSimpArgs false in
set_option maxRecDepth 100000 in
set_option maxHeartbeats 8000000 in
theorem grown_ints (its : Its) (g0 N cap : Nat) (C0 : Nat → List (List Value)) (w : World) (hN : its.length = N) (hNb : N ≤ 1000000) (hb : Bag KI w its C0) (hl : Lone its) (hh : Heads w g0 its) :
    Calls Try.prog 17 #[.slice (some ⟨g0, 0, none⟩) N cap] w fun e w' => e = .returned (.bool true) ∧ KeptBag its w w' := by
  have HL := hide1 hl
  have HH := hide1 hh
  have HB := hide1 hb
  have HNN := hide1 hN
  have HOLD : Hid (Old its w) := fun v b n c hv => (hb v b n c hv).1.lt
  have gN : (N : Int) ≤ 1000000 := by omega
  clear hl hh hb hN hNb
  go_enter Try.func17, Try.ntmps17
  go_wp2_with fail
  go_loopw [3] (fun i wr => ∃ (t : Nat) (C : Nat → List (List Value)), i = .int .i64 (t : Int) ∧ t ≤ N ∧ Hid (Bag KI wr its C) ∧ Hid (Full KI its C t 0) ∧ Hid (KeptBag its w wr)) (fun i _ => N - (intOf i).toNat)
  case atStart => exact ⟨0, C0, rfl, by omega, HB, fun t b n c ht s hs h => by omega, KeptBag.refl _ _⟩
  case round =>
    obtain ⟨t, C, rfl, ht, hB, hF, hK⟩ := hrel
    clear HB
    by_cases hlt : (t : Int) < (N : Int)
    · obtain ⟨⟨b, n, c⟩, hit⟩ : ∃ it, its[t]? = some it := ⟨_, List.getElem?_eq_getElem (by have := HNN.out; omega)⟩
      have HIT := hide1 hit
      obtain ⟨_, hcl, hnc, hc9⟩ := hB.out t b n c hit
      have gn : (n : Int) ≤ 4194304 := by omega
      clear hit hcl
      go_wp2_with fail
      go_loopw [4] (fun i wr => ∃ (j : Nat) (C : Nat → List (List Value)), i = .int .i64 (j : Int) ∧ j ≤ n ∧ Hid (Bag KI wr its C) ∧ Hid (Full KI its C t j) ∧ Hid (KeptBag its w wr)) (fun i _ => n - (intOf i).toNat)
      case atStart => exact ⟨0, C, rfl, by omega, hB, hF, hK⟩
      case round =>
        clear hB hF hK
        obtain ⟨j, C, rfl, hj, hB, hF, hK⟩ := hrel
        obtain ⟨hcell, hbg⟩ := (HH.out.bag hK.out) t b n c HIT.out
        by_cases hlt2 : (j : Int) < (n : Int)
        · obtain ⟨hrow, hcl, _, _⟩ := hB.out t b n c HIT.out
          obtain ⟨u0, e0⟩ := hrow.cellAt KI.pos (s := j) (j := 0) (by omega) (by decide)
          have e1 : wr.cell? ⟨b, j, none⟩ = some u0 := by have := e0; simpa [KI] using this
          have z1 := hrow.frozen j
          have HB5 := hide1 (hB.out.put HL.out HIT.out (show KeptBut b wr (wr.setCell ⟨b, j, none⟩ (.int .i64 (100000 * (t : Int) + (j : Int)))) from setCell_but _ _ _ _) (RowE.put1 hrow (.int .i64 (100000 * (t : Int) + (j : Int))) (by omega)) (by simp))
          have HF5 := hide1 (hF.out.put hB.out HIT.out (j := j) (by omega))
          have HK5 := hide1 (hK.out.trans (KeptBag.put HIT.out (show KeptBut b wr (wr.setCell ⟨b, j, none⟩ (.int .i64 (100000 * (t : Int) + (j : Int)))) from setCell_but _ _ _ _)))
          have hjc : (j : Int) < (c : Int) := by omega
          clear hrow hcl e0 hB hF hK
          go_wp2_with fail
          go_roundw
          case rel => exact ⟨j + 1, _, by go_num, by omega, HB5, HF5, HK5⟩
          case measure => simp [intOf]; omega
        · go_wp2_with fail
          go_roundw
          case rel => exact ⟨t + 1, C, by go_num, by omega, hB, (hF.out.next (fun b' n' c' h' => by have := HIT.out; rw [h'] at this; simp only [Option.some.injEq, Prod.mk.injEq] at this; omega)), hK⟩
          case measure => simp [intOf]; omega
    · obtain rfl : t = N := by omega
      clear hlt ht
      go_wp2_with fail
      go_loopw [5, 6] (fun m i wr => ∃ (u : Nat) (its2 : List (Nat × Nat)) (E C : Nat → List (List Value)) (aM : Option Addr) (cM : Nat), m = .slice aM u cM ∧ i = .int .i64 (u : Int) ∧ u ≤ t ∧ Hid (St2 KI its w t wr u its2 E C aM cM)) (fun _ i _ => t - (intOf i).toNat)
      case atStart => exact ⟨0, [], fun _ => [], C, none, 0, rfl, rfl, by omega, St2.start hB.out hF.out hK.out⟩
      case round =>
        obtain ⟨u, its2, E, C, aM, cM, rfl, rfl, hu, hS⟩ := hrel
        clear hB hF hK
        by_cases hlt : (u : Int) < (t : Int)
        · obtain ⟨⟨b, n, c⟩, hit⟩ : ∃ it, its[u]? = some it := ⟨_, List.getElem?_eq_getElem (by have := HNN.out; omega)⟩
          have HIT := hide1 hit
          obtain ⟨hcell, hbg⟩ := (HH.out.bag hS.out.2.2.1) u b n c hit
          obtain ⟨hrow, hcl, hnc, hc9⟩ := hS.out.1 u b n c hit
          have gn : (n : Int) ≤ 4194304 := by omega
          have HROW := hide1 hrow
          have HCL := hide1 hcl
          clear hit hrow hcl
          go_wp2_with fail
          go_loopw [7, 8] (fun g i wr => ∃ (j : Nat) (C : Nat → List (List Value)) (gb cg : Nat) (G : List (List Value)), g = .slice (some ⟨gb, 0, none⟩) (n + j) cg ∧ i = .int .i64 (j : Int) ∧ j ≤ 70 ∧ Hid (St2 KI its w t wr u its2 E C aM cM) ∧ Hid (Cur KI w its its2 aM u n j wr gb cg G)) (fun _ i _ => 70 - (intOf i).toNat)
          case atStart => exact ⟨0, C, b, c, C u, rfl, rfl, by omega, hS, HROW.out, HCL.out, by omega, hc9.2, ⟨fun s hs => hS.out.2.1 u b n c HIT.out s hs (by omega), fun s hs => by omega⟩, .inl ⟨n, c, HIT.out⟩⟩
          case round =>
            clear hS
            obtain ⟨j, C, gb, cg, G, rfl, rfl, hj, hS, hC⟩ := hrel
            by_cases hlt3 : (j : Int) < 70
            · have HNEW : Hid (∀ (k : Nat) v, [.int .i64 (-1 - 100 * (u : Int) - (j : Int))][k]? = some v → (wr.alloc (.cells #[.int .i64 (-1 - 100 * (u : Int) - (j : Int))] 3)).cell? ⟨wr.heap.size, k, none⟩ = some v) := by
                intro k v hv
                have h := World.alloc_heap_new wr (.cells #[.int .i64 (-1 - 100 * (u : Int) - (j : Int))] 3)
                simp only [World.cell?, h]
                simpa using hv
              go_wp2_with (at_builtin; go_must (refine wpl_growE (T := 3) (TT := 40) (sz := 1) KI.pos intt_info rfl (by decide) Try.underlying40 rfl _ _ rfl _ gb (n + j) cg G (by rfl) (hC.out.1.kept ((Kept.refl wr).alloc #[.int .i64 (-1 - 100 * (u : Int) - (j : Int))] 3)) hC.out.2.1 hC.out.2.2.1 hC.out.2.2.2.1 [.int .i64 (-1 - 100 * (u : Int) - (j : Int))] rfl (by simp [Value.oneCell']) wr.heap.size (by rfl) (HNEW.out) (by omega) ?_; intro gb' cg' G' w6 r1 r2 r3 r4 r5 r6; have hstep := hide1 (step2 hS.out hC.out HIT.out HL.out HOLD.out ((Kept.refl wr).alloc #[.int .i64 (-1 - 100 * (u : Int) - (j : Int))] 3) r1 r2 r3 r4 r5 r6); clear r1 r2 r3 r4 r5 r6))
              obtain ⟨C', hs', hc'⟩ := hstep.out
              have HS' := hide1 hs'
              have HC' := hide1 hc'
              clear hs' hc' hstep
              go_roundw
              case rel => exact ⟨j + 1, C', gb', cg', G', rfl, by go_num, by omega, HS', HC'⟩
              case measure => simp [intOf]; omega
            · obtain rfl : j = 70 := by omega
              clear hj hlt3
              have hsz0 := hS.out.2.2.1.2.2.2.1
              go_wp2_with (at_builtin; go_must (refine grown_ints_add rfl _ _ rfl wr _ ((Kept.refl wr).alloc _ _) w.heap.size (.slice aM u cM) u (moreV its its2) (by rfl) hS.out.2.2.2.2.2.1 (some ⟨gb, 0, none⟩) (n + 70) cg wr.heap.size (by rfl) (World.alloc_heap_new wr _) (by omega) hsz0 ?_; intro g7 c7 w7 ho7 hg7 hgg7 hlt7; have hstep := hide1 (step3 hS.out hC.out HIT.out HL.out HOLD.out ((Kept.refl wr).alloc _ _) ho7 hg7 hgg7); clear ho7 hg7 hgg7 hlt7))
              go_roundw
              case rel => exact ⟨u + 1, its2 ++ [(gb, cg)], _, C, some ⟨g7, 0, none⟩, c7, rfl, by go_num, by omega, hstep⟩
              case measure => simp [intOf]; omega
        · obtain rfl : u = t := by omega
          clear hlt hu
          have HP := hide1 (fun v hv => phase3 hS.out (HH.out.bag hS.out.2.2.1) HNN.out v hv)
          have HK := hide1 hS.out.2.2.1
          clear hS
          obtain ⟨wb, rfl⟩ : ∃ x, x = wr := ⟨_, rfl⟩
          go_wp2_with fail
          go_loopw [9] (fun i wx => ∃ v : Nat, i = .int .i64 (v : Int) ∧ v ≤ u ∧ Hid (Kept wb wx)) (fun i _ => u - (intOf i).toNat)
          case atStart => exact ⟨0, rfl, by omega, Kept.refl _⟩
          case round =>
            obtain ⟨v, rfl, hv, hk⟩ := hrel
            by_cases hlt : (v : Int) < (u : Int)
            · obtain ⟨b, n, c, gb, cg, gM, hn9, hnc, hncg, rfl, c1, c2, c3, c5⟩ := HP.out v (by omega)
              have q1 := keeps c1
              have q2 := keeps c2
              have HC3 := hide1 c3
              have HC5 := hide1 c5
              have gn : (n : Int) ≤ 4194304 := by omega
              clear c1 c2 c3 c5
              have d1 := q1 _ hk.out
              go_wp2_with fail
              clear d1
              go_loopw [11] (fun i wx => ∃ s : Nat, i = .int .i64 (s : Int) ∧ s ≤ n ∧ Hid (Kept wb wx)) (fun i _ => n - (intOf i).toNat)
              case atStart => exact ⟨0, rfl, by omega, hk⟩
              case round =>
                clear hk
                obtain ⟨s, rfl, hs, hk⟩ := hrel
                by_cases hlt2 : (s : Int) < (n : Int)
                · have d1 := q1 _ hk.out
                  have d2 := q2 _ hk.out
                  have hs7 : (s : Int) < (n : Int) + 70 := by omega
                  have a0 := grown_cell hk.out (HC3.out s (by omega) 0 _ rfl).1
                  have b0 := grown_cell hk.out (HC3.out s (by omega) 0 _ rfl).2
                  have a1 : wr.cell? ⟨b, s, none⟩ = some (.int .i64 (100000 * (v : Int) + (s : Int))) := by have := a0; simpa [KI] using this
                  have b1 : wr.cell? ⟨gb, s, none⟩ = some (.int .i64 (100000 * (v : Int) + (s : Int))) := by have := b0; simpa [KI] using this
                  have hmm : (100000 * (v : Int) + (s : Int) != 100000 * (v : Int) + (s : Int)) = false := by simp
                  clear a0 b0
                  go_wp2_with fail
                  go_roundw
                  case rel => exact ⟨s + 1, by go_num, by omega, hk⟩
                  case measure => simp [intOf]; omega
                · clear hs
                  go_wp2_with fail
                  go_loopw [12] (fun i wx => ∃ s : Nat, i = .int .i64 (s : Int) ∧ s ≤ 70 ∧ Hid (Kept wb wx)) (fun i _ => 70 - (intOf i).toNat)
                  case atStart => exact ⟨0, rfl, by omega, hk⟩
                  case round =>
                    clear hk
                    obtain ⟨s, rfl, hs, hk⟩ := hrel
                    by_cases hlt3 : (s : Int) < 70
                    · have d2 := q2 _ hk.out
                      have hns : (n : Int) + (s : Int) < (n : Int) + 70 := by omega
                      obtain ⟨ns, hns2⟩ : ∃ ns, n + s = ns := ⟨_, rfl⟩
                      have hnsI : (n : Int) + (s : Int) = (ns : Int) := by omega
                      have b0 := grown_cell hk.out (HC5.out s (by omega) 0 _ rfl)
                      have b1 : wr.cell? ⟨gb, n + s, none⟩ = some (.int .i64 (-1 - 100 * (v : Int) - (s : Int))) := by have := b0; simpa [KI] using this
                      clear b0 hns2 hnsI
                      have hmm : (-1 - 100 * (v : Int) - (s : Int) != -1 - 100 * (v : Int) - (s : Int)) = false := by simp
                      go_wp2_with fail
                      go_roundw
                      case rel => exact ⟨s + 1, by go_num, by omega, hk⟩
                      case measure => simp [intOf]; omega
                    · go_wp2_with fail
                      go_roundw
                      case rel => exact ⟨v + 1, by go_num, by omega, hk⟩
                      case measure => simp [intOf]; omega
            · go_wp2_with fail
              go_ret
              exact ⟨rfl, HK.out.trans (KeptBag.kept hk.out)⟩
set_option maxRecDepth 100000 in
set_option maxHeartbeats 2000000 in
/-- No list was handed out. -/
theorem grown_ints_nil (w : World) : Calls Try.prog 17 #[.slice none 0 0] w fun e w' => e = .returned (.bool true) ∧ w' = w := by
  go_enter Try.func17, Try.ntmps17
  go_wp2_with fail
  go_loopw [3] (fun i wr => i = .int .i64 0 ∧ wr = w) (fun _ _ => 0)
  case atStart => exact ⟨rfl, rfl⟩
  case round =>
    obtain ⟨rfl, rfl⟩ := hrel
    go_wp2_with fail
    go_loopw [5, 6] (fun m i wx => m = .slice none 0 0 ∧ i = .int .i64 0 ∧ wx = wr) (fun _ _ _ => 0)
    case atStart => exact ⟨rfl, rfl, rfl⟩
    case round =>
      obtain ⟨rfl, rfl, rfl⟩ := hrel
      go_wp2_with fail
      go_loopw [9] (fun i wx => i = .int .i64 0 ∧ wx = wr) (fun _ _ => 0)
      case atStart => exact ⟨rfl, rfl⟩
      case round =>
        obtain ⟨rfl, rfl⟩ := hrel
        go_wp2_with fail
        go_ret
        exact ⟨rfl, rfl⟩

end Bk
end Tr
end Ex
end Go.Proofs.Ythpampfbmpdmoaa
namespace Go.Proofs.Ythpampfbmpdmoaa
open Go.RowKit
attribute [local go_sem] Oper.semAt_some
namespace Ex
namespace Tr
namespace Bk

def KR : GrK := ⟨88, 63, 6, by decide, by decide, fun i k => [.int .i64 (7000 + (i : Int)), .int .i64 (k : Int), .int .i64 0, .int .i64 0, .int .i64 0, .int .i64 0], fun i k => [.int .i64 (-1 - (i : Int)), .int .i64 (k : Int), .int .i64 0, .int .i64 0, .int .i64 0, .int .i64 0]⟩
theorem but6r (g o : Nat) (w : World) (x0 x1 x2 x3 x4 x5 : Value) : KeptBut g w ((((((w.setCell ⟨g, o, none⟩ x0).setCell ⟨g, o + 1, none⟩ x1).setCell ⟨g, o + 2, none⟩ x2).setCell ⟨g, o + 3, none⟩ x3).setCell ⟨g, o + 4, none⟩ x4).setCell ⟨g, o + 5, none⟩ x5) :=
  (((((setCell_but _ _ _ _).trans (setCell_but _ _ _ _)).trans (setCell_but _ _ _ _)).trans (setCell_but _ _ _ _)).trans (setCell_but _ _ _ _)).trans (setCell_but _ _ _ _)
theorem setCell_rowB {w : World} {g : Nat} {cur : Array Value} {t : TypeId} (h : w.heap[g]? = some (.cells cur t (0, 0))) (o : Nat) (v : Value) : (w.setCell ⟨g, o, none⟩ v).heap[g]? = some (.cells (cur.setIfInBounds o v) t (0, 0)) := by
  have hl := (Array.getElem?_eq_some_iff.1 h).1
  have he := Option.some.inj ((Array.getElem?_eq_getElem hl).symm.trans h)
  simp [World.setCell, Array.getElem_modify, hl, he]
theorem RowE.put6 {T : TypeId} {w : World} {b : Nat} {E : List (List Value)} (h : RowE T 6 w b E) {s : Nat} (x0 x1 x2 x3 x4 x5 : Value) (hl : s < E.length) : RowE T 6 ((((((w.setCell ⟨b, s * 6, none⟩ x0).setCell ⟨b, s * 6 + 1, none⟩ x1).setCell ⟨b, s * 6 + 2, none⟩ x2).setCell ⟨b, s * 6 + 3, none⟩ x3).setCell ⟨b, s * 6 + 4, none⟩ x4).setCell ⟨b, s * 6 + 5, none⟩ x5) b (E.set s [x0, x1, x2, x3, x4, x5]) := by
  obtain ⟨cur, h1, h2, h3⟩ := h
  have hcs : cur.size = E.length * 6 := by
    have := congrArg List.length h2
    rw [flat_len E h3] at this
    simpa using this
  have h4 := setCell_rowB (setCell_rowB (setCell_rowB (setCell_rowB (setCell_rowB (setCell_rowB h1 (s * 6) x0) (s * 6 + 1) x1) (s * 6 + 2) x2) (s * 6 + 3) x3) (s * 6 + 4) x4) (s * 6 + 5) x5
  refine RowE.put (by decide) ⟨cur, h1, h2, h3⟩ rfl h1 h4 hl (fun k => ?_)
  by_cases hk : s * 6 ≤ k ∧ k < s * 6 + 6
  · rw [if_pos hk]
    rcases (by omega : k = s * 6 ∨ k = s * 6 + 1 ∨ k = s * 6 + 2 ∨ k = s * 6 + 3 ∨ k = s * 6 + 4 ∨ k = s * 6 + 5) with rfl | rfl | rfl | rfl | rfl | rfl
    · rw [Array.getElem?_setIfInBounds_ne (by omega), Array.getElem?_setIfInBounds_ne (by omega), Array.getElem?_setIfInBounds_ne (by omega), Array.getElem?_setIfInBounds_ne (by omega), Array.getElem?_setIfInBounds_ne (by omega), Array.getElem?_setIfInBounds_self_of_lt (by omega), Nat.sub_self]
      rfl
    · rw [Array.getElem?_setIfInBounds_ne (by omega), Array.getElem?_setIfInBounds_ne (by omega), Array.getElem?_setIfInBounds_ne (by omega), Array.getElem?_setIfInBounds_ne (by omega), Array.getElem?_setIfInBounds_self_of_lt (by simp; omega), Nat.add_sub_cancel_left]
      rfl
    · rw [Array.getElem?_setIfInBounds_ne (by omega), Array.getElem?_setIfInBounds_ne (by omega), Array.getElem?_setIfInBounds_ne (by omega), Array.getElem?_setIfInBounds_self_of_lt (by simp; omega), Nat.add_sub_cancel_left]
      rfl
    · rw [Array.getElem?_setIfInBounds_ne (by omega), Array.getElem?_setIfInBounds_ne (by omega), Array.getElem?_setIfInBounds_self_of_lt (by simp; omega), Nat.add_sub_cancel_left]
      rfl
    · rw [Array.getElem?_setIfInBounds_ne (by omega), Array.getElem?_setIfInBounds_self_of_lt (by simp; omega), Nat.add_sub_cancel_left]
      rfl
    · rw [Array.getElem?_setIfInBounds_self_of_lt (by simp; omega), Nat.add_sub_cancel_left]
      rfl
  · rw [if_neg hk, Array.getElem?_setIfInBounds_ne (by omega), Array.getElem?_setIfInBounds_ne (by omega), Array.getElem?_setIfInBounds_ne (by omega), Array.getElem?_setIfInBounds_ne (by omega), Array.getElem?_setIfInBounds_ne (by omega), Array.getElem?_setIfInBounds_ne (by omega)]
theorem rowst_info : (Try.prog.info? 63).map (fun i => (i.zero, i.size, i.bytes)) = some (some (.slice none 0 0), 1, 24) := by kernel_rfl
theorem grown_rows_add {ops : Array Oper} {rest : List Oper} {o : Oper} {a : Act} {Q : Exit → Act → World → Prop} (hgd : o.guard = none) (s x : Operand)
    (ho : o.op = .call { callee := .builtin .append, args := #[s, x], argTypes := #[65, 65] }) (w W : World) (hW : Kept w W) (n0 : Nat) (vP : Value) (n : Nat) (ps : List Value) (hs : a.eval s = vP) (hown : w.ownsRow n0 63 1 vP n ps)
    (q : Option Addr) (k cq : Nat) (lb : Nat) (hx : a.eval x = .slice (some ⟨lb, 0, none⟩) 1 1) (hc : W.heap[lb]? = some (.cells #[.slice q k cq] 63 (0, 0))) (hn : n ≤ 2000000000) (hb : n0 ≤ w.heap.size)
    (h : ∀ g cap w', w'.ownsRow n0 63 1 (.slice (some ⟨g, 0, none⟩) (n + 1) cap) (n + 1) (ps ++ [.slice q k cq]) → W.grownBy w' vP.ownBlock → (vP.ownBlock = some g ∨ g = W.heap.size) → g < w'.heap.size → wpList Try.prog ops Q rest (a.put o.dst (.slice (some ⟨g, 0, none⟩) (n + 1) cap)) w') : wpList Try.prog ops Q (o :: rest) a W := by
  obtain ⟨i0, hi, hz0, hz1, hz2⟩ := info_parts rowst_info
  have hown' : W.ownsRow n0 63 1 vP n ps := owns_same hown (fun g hg => hW.2.2.2.2 g (owns_lt hown g hg))
  refine wpList_append_lies W hgd s x 65 ho n0 63 i0 (.slice none 0 0) 1 24 Try.underlying65 hi hz0 hz1 hz2 rfl (by decide) vP n ps hs hown' ⟨lb, 0, none⟩ 1 1 [.slice q k cq] hx rfl ?_ (by intro u hu; simp at hu; subst hu; rfl) (by decide) (by unfold maxLen; omega) (by omega) (Nat.le_trans hb hW.size) W.heap.size rfl
    (fun g cap w' h1 h2 h3 h4 => h g cap w' h1 h2 h3 h4)
  intro j y hj
  have hj2 : j < 1 := (List.getElem?_eq_some_iff.1 hj).1
  match j, hj2 with
  | 0, _ => rw [← hj]; simp [World.cell?, Addr.add, hc]
set_option linter.unusedSimpArgs false in
set_option maxRecDepth 100000 in
set_option maxHeartbeats 8000000 in
theorem grown_rows (its : Its) (g0 N cap : Nat) (C0 : Nat → List (List Value)) (w : World) (hN : its.length = N) (hNb : N ≤ 1000000) (hb : Bag KR w its C0) (hl : Lone its) (hh : Heads w g0 its) :
    Calls Try.prog 16 #[.slice (some ⟨g0, 0, none⟩) N cap] w fun e w' => e = .returned (.bool true) ∧ KeptBag its w w' := by
  have HL := hide1 hl
  have HH := hide1 hh
  have HB := hide1 hb
  have HNN := hide1 hN
  have HOLD : Hid (Old its w) := fun v b n c hv => (hb v b n c hv).1.lt
  have gN : (N : Int) ≤ 1000000 := by omega
  clear hl hh hb hN hNb
  go_enter Try.func16, Try.ntmps16
  go_wp2_with fail
  go_loopw [3] (fun i wr => ∃ (t : Nat) (C : Nat → List (List Value)), i = .int .i64 (t : Int) ∧ t ≤ N ∧ Hid (Bag KR wr its C) ∧ Hid (Full KR its C t 0) ∧ Hid (KeptBag its w wr)) (fun i _ => N - (intOf i).toNat)
  case atStart => exact ⟨0, C0, rfl, by omega, HB, fun t b n c ht s hs h => by omega, KeptBag.refl _ _⟩
  case round =>
    obtain ⟨t, C, rfl, ht, hB, hF, hK⟩ := hrel
    clear HB
    by_cases hlt : (t : Int) < (N : Int)
    · obtain ⟨⟨b, n, c⟩, hit⟩ : ∃ it, its[t]? = some it := ⟨_, List.getElem?_eq_getElem (by have := HNN.out; omega)⟩
      have HIT := hide1 hit
      obtain ⟨_, hcl, hnc, hc9⟩ := hB.out t b n c hit
      have gn : (n : Int) ≤ 4194304 := by omega
      clear hit hcl
      go_wp2_with fail
      go_loopw [4] (fun i wr => ∃ (j : Nat) (C : Nat → List (List Value)), i = .int .i64 (j : Int) ∧ j ≤ n ∧ Hid (Bag KR wr its C) ∧ Hid (Full KR its C t j) ∧ Hid (KeptBag its w wr)) (fun i _ => n - (intOf i).toNat)
      case atStart => exact ⟨0, C, rfl, by omega, hB, hF, hK⟩
      case round =>
        clear hB hF hK
        obtain ⟨j, C, rfl, hj, hB, hF, hK⟩ := hrel
        obtain ⟨hcell, hbg⟩ := (HH.out.bag hK.out) t b n c HIT.out
        by_cases hlt2 : (j : Int) < (n : Int)
        · obtain ⟨hrow, hcl, _, _⟩ := hB.out t b n c HIT.out
          obtain ⟨u0, e0⟩ := hrow.cellAt KR.pos (s := j) (j := 0) (by omega) (by decide)
          obtain ⟨u1, e1⟩ := hrow.cellAt KR.pos (s := j) (j := 1) (by omega) (by decide)
          obtain ⟨u2, e2⟩ := hrow.cellAt KR.pos (s := j) (j := 2) (by omega) (by decide)
          obtain ⟨u3, e3⟩ := hrow.cellAt KR.pos (s := j) (j := 3) (by omega) (by decide)
          obtain ⟨u4, e4⟩ := hrow.cellAt KR.pos (s := j) (j := 4) (by omega) (by decide)
          obtain ⟨u5, e5⟩ := hrow.cellAt KR.pos (s := j) (j := 5) (by omega) (by decide)
          have f0 : wr.cell? ⟨b, j * 6, none⟩ = some u0 := e0
          have f1 : wr.cell? ⟨b, j * 6 + 1, none⟩ = some u1 := e1
          have f2 : wr.cell? ⟨b, j * 6 + 2, none⟩ = some u2 := e2
          have f3 : wr.cell? ⟨b, j * 6 + 3, none⟩ = some u3 := e3
          have f4 : wr.cell? ⟨b, j * 6 + 4, none⟩ = some u4 := e4
          have f5 : wr.cell? ⟨b, j * 6 + 5, none⟩ = some u5 := e5
          have z0 := hrow.frozen (j * 6)
          have z1 := hrow.frozen (j * 6 + 1)
          have z2 := hrow.frozen (j * 6 + 2)
          have z3 := hrow.frozen (j * 6 + 3)
          have z4 := hrow.frozen (j * 6 + 4)
          have z5 := hrow.frozen (j * 6 + 5)
          have HB5 := hide1 (hB.out.put HL.out HIT.out (but6r b (j * 6) wr (.int .i64 (7000 + (t : Int))) (.int .i64 (j : Int)) (.int .i64 0) (.int .i64 0) (.int .i64 0) (.int .i64 0)) (RowE.put6 hrow (.int .i64 (7000 + (t : Int))) (.int .i64 (j : Int)) (.int .i64 0) (.int .i64 0) (.int .i64 0) (.int .i64 0) (by omega)) (by simp))
          have HF5 := hide1 (hF.out.put hB.out HIT.out (j := j) (by omega))
          have HK5 := hide1 (hK.out.trans (KeptBag.put HIT.out (but6r b (j * 6) wr (.int .i64 (7000 + (t : Int))) (.int .i64 (j : Int)) (.int .i64 0) (.int .i64 0) (.int .i64 0) (.int .i64 0))))
          have hjc : (j : Int) < (c : Int) := by omega
          clear hrow hcl e0 e1 e2 e3 e4 e5 hB hF hK
          go_wp2_with fail
          go_roundw
          case rel => exact ⟨j + 1, _, by go_num, by omega, HB5, HF5, HK5⟩
          case measure => simp [intOf]; omega
        · go_wp2_with fail
          go_roundw
          case rel => exact ⟨t + 1, C, by go_num, by omega, hB, (hF.out.next (fun b' n' c' h' => by have := HIT.out; rw [h'] at this; simp only [Option.some.injEq, Prod.mk.injEq] at this; omega)), hK⟩
          case measure => simp [intOf]; omega
    · obtain rfl : t = N := by omega
      clear hlt ht
      go_wp2_with fail
      go_loopw [5, 6] (fun m i wr => ∃ (u : Nat) (its2 : List (Nat × Nat)) (E C : Nat → List (List Value)) (aM : Option Addr) (cM : Nat), m = .slice aM u cM ∧ i = .int .i64 (u : Int) ∧ u ≤ t ∧ Hid (St2 KR its w t wr u its2 E C aM cM)) (fun _ i _ => t - (intOf i).toNat)
      case atStart => exact ⟨0, [], fun _ => [], C, none, 0, rfl, rfl, by omega, St2.start hB.out hF.out hK.out⟩
      case round =>
        obtain ⟨u, its2, E, C, aM, cM, rfl, rfl, hu, hS⟩ := hrel
        clear hB hF hK
        by_cases hlt : (u : Int) < (t : Int)
        · obtain ⟨⟨b, n, c⟩, hit⟩ : ∃ it, its[u]? = some it := ⟨_, List.getElem?_eq_getElem (by have := HNN.out; omega)⟩
          have HIT := hide1 hit
          obtain ⟨hcell, hbg⟩ := (HH.out.bag hS.out.2.2.1) u b n c hit
          obtain ⟨hrow, hcl, hnc, hc9⟩ := hS.out.1 u b n c hit
          have gn : (n : Int) ≤ 4194304 := by omega
          have HROW := hide1 hrow
          have HCL := hide1 hcl
          clear hit hrow hcl
          go_wp2_with fail
          go_loopw [7, 8] (fun g i wr => ∃ (j : Nat) (C : Nat → List (List Value)) (gb cg : Nat) (G : List (List Value)), g = .slice (some ⟨gb, 0, none⟩) (n + j) cg ∧ i = .int .i64 (j : Int) ∧ j ≤ 70 ∧ Hid (St2 KR its w t wr u its2 E C aM cM) ∧ Hid (Cur KR w its its2 aM u n j wr gb cg G)) (fun _ i _ => 70 - (intOf i).toNat)
          case atStart => exact ⟨0, C, b, c, C u, rfl, rfl, by omega, hS, HROW.out, HCL.out, by omega, hc9.2, ⟨fun s hs => hS.out.2.1 u b n c HIT.out s hs (by omega), fun s hs => by omega⟩, .inl ⟨n, c, HIT.out⟩⟩
          case round =>
            clear hS
            obtain ⟨j, C, gb, cg, G, rfl, rfl, hj, hS, hC⟩ := hrel
            by_cases hlt3 : (j : Int) < 70
            · have HNEW : Hid (∀ (k : Nat) v, [.int .i64 (-1 - (u : Int)), .int .i64 (j : Int), .int .i64 0, .int .i64 0, .int .i64 0, .int .i64 0][k]? = some v → (wr.alloc (.cells #[.int .i64 (-1 - (u : Int)), .int .i64 (j : Int), .int .i64 0, .int .i64 0, .int .i64 0, .int .i64 0] 88)).cell? ⟨wr.heap.size, k, none⟩ = some v) := by
                intro k v hv
                have h := World.alloc_heap_new wr (.cells #[.int .i64 (-1 - (u : Int)), .int .i64 (j : Int), .int .i64 0, .int .i64 0, .int .i64 0, .int .i64 0] 88)
                simp only [World.cell?, h]
                simpa using hv
              go_wp2_with (at_builtin; go_must (refine wpl_growE (T := 88) (TT := 63) (sz := 6) KR.pos rowt_info rfl (by decide) Try.underlying63 rfl _ _ rfl _ gb (n + j) cg G (by rfl) (hC.out.1.kept ((Kept.refl wr).alloc #[.int .i64 (-1 - (u : Int)), .int .i64 (j : Int), .int .i64 0, .int .i64 0, .int .i64 0, .int .i64 0] 88)) hC.out.2.1 hC.out.2.2.1 hC.out.2.2.2.1 [.int .i64 (-1 - (u : Int)), .int .i64 (j : Int), .int .i64 0, .int .i64 0, .int .i64 0, .int .i64 0] rfl (by simp [Value.oneCell']) wr.heap.size (by rfl) (HNEW.out) (by omega) ?_; intro gb' cg' G' w6 r1 r2 r3 r4 r5 r6; have hstep := hide1 (step2 hS.out hC.out HIT.out HL.out HOLD.out ((Kept.refl wr).alloc #[.int .i64 (-1 - (u : Int)), .int .i64 (j : Int), .int .i64 0, .int .i64 0, .int .i64 0, .int .i64 0] 88) r1 r2 r3 r4 r5 r6); clear r1 r2 r3 r4 r5 r6))
              obtain ⟨C', hs', hc'⟩ := hstep.out
              have HS' := hide1 hs'
              have HC' := hide1 hc'
              clear hs' hc' hstep
              go_roundw
              case rel => exact ⟨j + 1, C', gb', cg', G', rfl, by go_num, by omega, HS', HC'⟩
              case measure => simp [intOf]; omega
            · obtain rfl : j = 70 := by omega
              clear hj hlt3
              have hsz0 := hS.out.2.2.1.2.2.2.1
              go_wp2_with (at_builtin; go_must (refine grown_rows_add rfl _ _ rfl wr _ ((Kept.refl wr).alloc _ _) w.heap.size (.slice aM u cM) u (moreV its its2) (by rfl) hS.out.2.2.2.2.2.1 (some ⟨gb, 0, none⟩) (n + 70) cg wr.heap.size (by rfl) (World.alloc_heap_new wr _) (by omega) hsz0 ?_; intro g7 c7 w7 ho7 hg7 hgg7 hlt7; have hstep := hide1 (step3 hS.out hC.out HIT.out HL.out HOLD.out ((Kept.refl wr).alloc _ _) ho7 hg7 hgg7); clear ho7 hg7 hgg7 hlt7))
              go_roundw
              case rel => exact ⟨u + 1, its2 ++ [(gb, cg)], _, C, some ⟨g7, 0, none⟩, c7, rfl, by go_num, by omega, hstep⟩
              case measure => simp [intOf]; omega
        · obtain rfl : u = t := by omega
          clear hlt hu
          have HP := hide1 (fun v hv => phase3 hS.out (HH.out.bag hS.out.2.2.1) HNN.out v hv)
          have HK := hide1 hS.out.2.2.1
          clear hS
          obtain ⟨wb, rfl⟩ : ∃ x, x = wr := ⟨_, rfl⟩
          go_wp2_with fail
          go_loopw [9] (fun i wx => ∃ v : Nat, i = .int .i64 (v : Int) ∧ v ≤ u ∧ Hid (Kept wb wx)) (fun i _ => u - (intOf i).toNat)
          case atStart => exact ⟨0, rfl, by omega, Kept.refl _⟩
          case round =>
            obtain ⟨v, rfl, hv, hk⟩ := hrel
            by_cases hlt : (v : Int) < (u : Int)
            · obtain ⟨b, n, c, gb, cg, gM, hn9, hnc, hncg, rfl, c1, c2, c3, c5⟩ := HP.out v (by omega)
              have q1 := keeps c1
              have q2 := keeps c2
              have HC3 := hide1 c3
              have HC5 := hide1 c5
              have gn : (n : Int) ≤ 4194304 := by omega
              clear c1 c2 c3 c5
              have d1 := q1 _ hk.out
              go_wp2_with fail
              clear d1
              go_loopw [11] (fun i wx => ∃ s : Nat, i = .int .i64 (s : Int) ∧ s ≤ n ∧ Hid (Kept wb wx)) (fun i _ => n - (intOf i).toNat)
              case atStart => exact ⟨0, rfl, by omega, hk⟩
              case round =>
                clear hk
                obtain ⟨s, rfl, hs, hk⟩ := hrel
                by_cases hlt2 : (s : Int) < (n : Int)
                · have d1 := q1 _ hk.out
                  have d2 := q2 _ hk.out
                  have hs7 : (s : Int) < (n : Int) + 70 := by omega
                  have a0 := grown_cell hk.out (HC3.out s (by omega) 0 _ rfl).1
                  have b0 := grown_cell hk.out (HC3.out s (by omega) 0 _ rfl).2
                  have a1 := grown_cell hk.out (HC3.out s (by omega) 1 _ rfl).1
                  have b1 := grown_cell hk.out (HC3.out s (by omega) 1 _ rfl).2
                  have a2 := grown_cell hk.out (HC3.out s (by omega) 2 _ rfl).1
                  have b2 := grown_cell hk.out (HC3.out s (by omega) 2 _ rfl).2
                  have a3 := grown_cell hk.out (HC3.out s (by omega) 3 _ rfl).1
                  have b3 := grown_cell hk.out (HC3.out s (by omega) 3 _ rfl).2
                  have a4 := grown_cell hk.out (HC3.out s (by omega) 4 _ rfl).1
                  have b4 := grown_cell hk.out (HC3.out s (by omega) 4 _ rfl).2
                  have a5 := grown_cell hk.out (HC3.out s (by omega) 5 _ rfl).1
                  have b5 := grown_cell hk.out (HC3.out s (by omega) 5 _ rfl).2
                  replace a0 : wr.cell? ⟨b, s * 6, none⟩ = some (.int .i64 (7000 + (v : Int))) := a0
                  replace b0 : wr.cell? ⟨gb, s * 6, none⟩ = some (.int .i64 (7000 + (v : Int))) := b0
                  replace a1 : wr.cell? ⟨b, s * 6 + 1, none⟩ = some (.int .i64 (s : Int)) := a1
                  replace b1 : wr.cell? ⟨gb, s * 6 + 1, none⟩ = some (.int .i64 (s : Int)) := b1
                  replace a2 : wr.cell? ⟨b, s * 6 + 2, none⟩ = some (.int .i64 0) := a2
                  replace b2 : wr.cell? ⟨gb, s * 6 + 2, none⟩ = some (.int .i64 0) := b2
                  replace a3 : wr.cell? ⟨b, s * 6 + 3, none⟩ = some (.int .i64 0) := a3
                  replace b3 : wr.cell? ⟨gb, s * 6 + 3, none⟩ = some (.int .i64 0) := b3
                  replace a4 : wr.cell? ⟨b, s * 6 + 4, none⟩ = some (.int .i64 0) := a4
                  replace b4 : wr.cell? ⟨gb, s * 6 + 4, none⟩ = some (.int .i64 0) := b4
                  replace a5 : wr.cell? ⟨b, s * 6 + 5, none⟩ = some (.int .i64 0) := a5
                  replace b5 : wr.cell? ⟨gb, s * 6 + 5, none⟩ = some (.int .i64 0) := b5
                  have hw7 : IntKind.i64.wrap (7000 + (v : Int)) = 7000 + (v : Int) := by rw [IntKind.wrap_i64]; omega
                  go_upto_region 25 with fail
                  go_quiet (fail)
                  go_wp2_with fail
                  go_roundw
                  case rel => exact ⟨s + 1, by go_num, by omega, gtrans hk.out (drewN_kept _ _)⟩
                  case measure => simp [intOf]; omega
                · clear hs
                  go_wp2_with fail
                  go_loopw [12] (fun i wx => ∃ s : Nat, i = .int .i64 (s : Int) ∧ s ≤ 70 ∧ Hid (Kept wb wx)) (fun i _ => 70 - (intOf i).toNat)
                  case atStart => exact ⟨0, rfl, by omega, hk⟩
                  case round =>
                    clear hk
                    obtain ⟨s, rfl, hs, hk⟩ := hrel
                    by_cases hlt3 : (s : Int) < 70
                    · have d2 := q2 _ hk.out
                      have hns : (n : Int) + (s : Int) < (n : Int) + 70 := by omega
                      obtain ⟨ns, hns2⟩ : ∃ ns, n + s = ns := ⟨_, rfl⟩
                      have hnsI : (n : Int) + (s : Int) = (ns : Int) := by omega
                      have b0 := grown_cell hk.out (HC5.out s (by omega) 0 _ rfl)
                      have b1 := grown_cell hk.out (HC5.out s (by omega) 1 _ rfl)
                      have b2 := grown_cell hk.out (HC5.out s (by omega) 2 _ rfl)
                      have b3 := grown_cell hk.out (HC5.out s (by omega) 3 _ rfl)
                      have b4 := grown_cell hk.out (HC5.out s (by omega) 4 _ rfl)
                      have b5 := grown_cell hk.out (HC5.out s (by omega) 5 _ rfl)
                      replace b0 : wr.cell? ⟨gb, (n + s) * 6, none⟩ = some (.int .i64 (-1 - (v : Int))) := b0
                      replace b1 : wr.cell? ⟨gb, (n + s) * 6 + 1, none⟩ = some (.int .i64 (s : Int)) := b1
                      replace b2 : wr.cell? ⟨gb, (n + s) * 6 + 2, none⟩ = some (.int .i64 0) := b2
                      replace b3 : wr.cell? ⟨gb, (n + s) * 6 + 3, none⟩ = some (.int .i64 0) := b3
                      replace b4 : wr.cell? ⟨gb, (n + s) * 6 + 4, none⟩ = some (.int .i64 0) := b4
                      replace b5 : wr.cell? ⟨gb, (n + s) * 6 + 5, none⟩ = some (.int .i64 0) := b5
                      have hw7 : IntKind.i64.wrap (-1 - (v : Int)) = -1 - (v : Int) := by rw [IntKind.wrap_i64]; omega
                      clear hns2 hnsI
                      go_wp2_with fail
                      go_roundw
                      case rel => exact ⟨s + 1, by go_num, by omega, hk⟩
                      case measure => simp [intOf]; omega
                    · go_wp2_with fail
                      go_roundw
                      case rel => exact ⟨v + 1, by go_num, by omega, hk⟩
                      case measure => simp [intOf]; omega
            · go_wp2_with fail
              go_ret
              exact ⟨rfl, HK.out.trans (KeptBag.kept hk.out)⟩

end Bk
end Tr
end Ex
end Go.Proofs.Ythpampfbmpdmoaa
