import Derived.Test.YtnchmhginmaliaaGreatDoorMExOt1
import Derived.BigQuiet
namespace Go.Proofs.YtnchmhginmaliaaGreatDoor
open Go.RowKit
attribute [local go_sem] Oper.semAt_some
namespace Ex

theorem kept6n {w W : World} {g : Nat} {x0 x1 x2 x3 x4 x5 : Value} (h : Kept w W) (hg : w.heap.size ≤ g) : Kept w ((((((W.setCell ⟨g, 0, none⟩ x0).setCell ⟨g, 1, none⟩ x1).setCell ⟨g, 2, none⟩ x2).setCell ⟨g, 3, none⟩ x3).setCell ⟨g, 4, none⟩ x4).setCell ⟨g, 5, none⟩ x5) :=
  kept_new (kept_new (kept_new (kept_new (kept_new (kept_new h hg) hg) hg) hg) hg) hg
set_option linter.unusedSimpArgs false in
set_option maxRecDepth 100000 in
set_option maxHeartbeats 4000000 in
theorem either_is (S : Nat → Prop) (l : List Pat) (v : Value) (base : Nat) (w : World) (h : PatsOwn w base S v l) (hS : ∀ d, base ≤ d → S d) (hl : l.length ≤ 100000) :
    Calls Tryz.prog 22 #[v] w fun r w' => PGives S (oneOf 3 l) r w' ∧ Kept w w' := by
  have HO := hide1 h
  have HS := hide1 hS
  obtain ⟨av, cv, rfl⟩ := h.form
  obtain ⟨n, hn⟩ : ∃ n, l.length = n := ⟨_, rfl⟩
  rw [hn] at HO hl ⊢
  have HN := hide1 hn
  clear h hS hn
  go_enter Tryz.func22, Tryz.ntmps22
  refine wp_seq_k (fun K2 hK2 => ?_)
  have HK2 := hide1 hK2
  clear hK2
  go_wp2_with fail
  refine HK2.out _ _ ?_
  clear HK2
  generalize hW1 : w.alloc _ = W1
  have HK1 : Hid (Kept w W1) := by rw [← hW1]; exact (Kept.refl w).alloc _ _
  have HBZ : Hid (BoxAt W1 w.heap.size (.int .i64 0) (.int .i64 0) (.int .i64 0) (.int .i64 0) (.int .i64 0) (.slice none 0 0)) := by rw [← hW1]; exact BoxAt.new w _ _ _ _ _ _
  clear hW1
  obtain ⟨⟨p0, p1, p2, p3, p4, p5⟩, x0, x1, x2, x3, x4, x5⟩ := HBZ.out.facts
  have hlt := HBZ.out.lt
  by_cases hl1 : n = 1
  · subst hl1
    obtain ⟨q, rfl⟩ := list_one HN.out
    obtain ⟨g, hgv, hcv⟩ := HO.out.nonnil
    subst hgv
    have hcv2 : (1 : Int) ≤ (cv : Int) := by omega
    have hgl := (HO.out.lt g rfl).2
    obtain ⟨u, ⟨m0, m1, m2, m3, m4, m5⟩, hu⟩ := (HO.out.keep HK1.out).one_facts
    have HU : Hid (KidsAt (fun d => S d ∧ d < w.heap.size) W1 q.1 (kids q.2) u) := by
      obtain ⟨u2, ⟨_, _, _, _, _, n5⟩, hu2⟩ := HO.out.one_facts
      have e2 : u2 = u := Option.some.inj (((World.cell?_of_block (w := w) (w' := W1) (a := ⟨g, 5, none⟩) (HK1.out.2.2.2.2 g hgl)).trans n5).symm.trans m5)
      subst e2
      exact hu2.tight.kept HK1.out
    obtain ⟨ua, uc, rfl⟩ := hu.form
    clear hu hcv
    go_wp2_with (go_quiet (fail))
    (try simp only [Exit.inBlock, Exit.then])
    refine bodyPost_ret (box_returns rfl _ _ w.heap.size _ _ _ _ _ _ rfl (BoxAt.set (by exact HBZ.out))) rfl ?_
    exact ⟨⟨_, rfl, _, rfl, KidsAt.mono (set6_holds (S := fun d => S d ∧ d < w.heap.size) (fun h => absurd h.2 (by omega))) (fun d h => h.1) _ _ _ HU.out⟩, kept6n HK1.out (Nat.le_refl _)⟩
  · have hl1a : ¬ (n : Int) = 1 := by omega
    have HU : Hid (KidsAt (fun d => S d ∧ d < w.heap.size) W1 (topL l) (kidsOf (topL l) l) (.slice av n cv)) := (HO.out.kids HS.out (Nat.le_refl _) (by rw [HN.out]; omega)).tight.kept HK1.out
    have HL : Hid (oneOf 3 l = mkP 3 0 0 0 0 l) := oneOf_more (by rw [HN.out]; exact hl1)
    go_wp2_with (go_quiet (fail))
    (try simp only [Exit.inBlock, Exit.then])
    refine bodyPost_ret (box_returns rfl _ _ w.heap.size _ _ _ _ _ _ rfl (BoxAt.set (by exact HBZ.out))) rfl ?_
    rw [HL.out]
    exact ⟨⟨_, rfl, _, rfl, KidsAt.mono (set6_holds (S := fun d => S d ∧ d < w.heap.size) (fun h => absurd h.2 (by omega))) (fun d h => h.1) _ _ _ HU.out⟩, kept6n HK1.out (Nat.le_refl _)⟩

end Ex
end Go.Proofs.YtnchmhginmaliaaGreatDoor
namespace Go.Proofs.YtnchmhginmaliaaGreatDoor
open Go.RowKit
attribute [local go_sem] Oper.semAt_some
namespace Ex

/-- Is the byte in the range? -/
def inR (i : Nat) (p : Int × Int) : Bool := decide (p.1 ≤ (i : Int)) && decide ((i : Int) ≤ p.2)
theorem markN_is (N : Nat → Bool) (f : Nat) : ∀ (m i : Nat), markN N f m i = (N i || (decide (f ≤ i) && decide (i < f + m)))
  | 0, i => by
    have : ¬ (f ≤ i ∧ i < f + 0) := by omega
    by_cases h : f ≤ i
    · simp [markN, h]; intro h2; omega
    · simp [markN, h]
  | m + 1, i => by
    rw [markN, setN, markN_is N f m i, Bool.eq_iff_iff]
    cases N i
    · simp; omega
    · simp
theorem markP_is (N : Nat → Bool) (p : Int × Int) (i : Nat) (h : 0 ≤ p.1 ∧ 0 ≤ p.2) : markP N p i = (N i || inR i p) := by
  unfold markP inR
  rw [markN_is, Bool.eq_iff_iff]
  cases N i
  · simp; omega
  · simp
theorem markL_is : ∀ (l : List (Int × Int)) (N : Nat → Bool) (i : Nat), (∀ p ∈ l, 0 ≤ p.1 ∧ p.1 ≤ 255 ∧ 0 ≤ p.2 ∧ p.2 ≤ 255) → markL N l i = (N i || l.any (inR i))
  | [], N, i, _ => by simp [markL]
  | p :: l, N, i, h => by
    have h1 := h p (List.mem_cons_self ..)
    have e : markL N (p :: l) = markL (markP N p) l := rfl
    rw [e, markL_is l (markP N p) i (fun q hq => h q (List.mem_cons_of_mem _ hq)), markP_is N p i ⟨h1.1, h1.2.2.1⟩, List.any_cons, Bool.or_assoc]
theorem any_next {l : List (Int × Int)} {j i : Nat} {q : Int × Int} (h : l[j]? = some q) : (l.take (j + 1)).any (inR i) = ((l.take j).any (inR i) || inR i q) := by
  obtain ⟨hj, rfl⟩ := List.getElem?_eq_some_iff.1 h
  rw [List.take_succ_eq_append_getElem hj, List.any_append]
  simp
/-- The outer loop. -/
def OthR (w : World) (N : Nat → Bool) (v vo vc : Value) (wi : World) : Prop :=
  ∃ j : Nat, vc = .int .i64 (j : Int) ∧ j ≤ 256 ∧ vo = .bool (decide (0 < j) && !N (j - 1)) ∧ PatsOwn wi w.heap.size (fun d => w.heap.size ≤ d) v (rangesP (restTo N j)) ∧ Kept w wi

set_option linter.unusedSimpArgs false in
set_option maxRecDepth 100000 in
set_option maxHeartbeats 4000000 in
theorem dothers_is (S : Nat → Prop) (l : List (Int × Int)) (v : Value) (base : Nat) (w : World) (h : PatsOwn w base S v (rangesP l)) (hl : l.length ≤ 5000) (hB : ∀ p ∈ l, 0 ≤ p.1 ∧ p.1 ≤ 255 ∧ 0 ≤ p.2 ∧ p.2 ≤ 255) :
    Calls Tryz.prog 75 #[v] w fun r w' => (∃ v', r = .returned v' ∧ PatsOwn w' w.heap.size (fun d => w.heap.size ≤ d) v' (rangesP (othersL l))) ∧ Kept w w' := by
  have HO := hide1 h
  have HB := hide1 hB
  obtain ⟨av, cv, rfl⟩ := h.form
  obtain ⟨n, hn⟩ : ∃ n, (rangesP l).length = n := ⟨_, rfl⟩
  have hnl : n = l.length := by rw [← hn]; simp [rangesP]
  rw [hn] at HO ⊢
  have gn : (n : Int) ≤ 5000 := by omega
  have HNL := hide1 hnl
  obtain ⟨N, hN⟩ : ∃ N, markL (fun _ => false) l = N := ⟨_, rfl⟩
  rw [show othersL l = restTo N 256 by rw [← hN]; rfl]
  have HNN : Hid (∀ i, N i = l.any (inR i)) := fun i => by rw [← hN, markL_is l _ i HB.out]; simp
  clear h hB hn hnl hl hN
  go_enter Tryz.func75, Tryz.ntmps75
  go_wp2_with (go_quiet (fail))
  go_loopw [3, 4, 5] (fun v vo vc wi => OthR w N v vo vc wi) (fun _ _ vc _ => 256 - (intOf vc).toNat)
  case atStart => exact ⟨0, rfl, by omega, rfl, PatsOwn.nil _ _ _, Kept.refl w⟩
  case round =>
    obtain ⟨j, rfl, hj, rfl, hP, hK⟩ := hrel
    obtain ⟨ar, cr, e9⟩ := hP.form
    obtain ⟨k, hk⟩ : ∃ k, (rangesP (restTo N j)).length = k := ⟨_, rfl⟩
    have hkj : k ≤ j := by rw [← hk]; simpa [rangesP] using restTo_len N j
    rw [hk] at e9
    subst e9
    have HP := hide1 hP
    have HK := hide1 hK
    have HKL := hide1 hk
    obtain ⟨op, hop⟩ : ∃ x, (decide (0 < j) && !N (j - 1)) = x := ⟨_, rfl⟩
    rw [hop]
    have HOP := hide1 hop
    clear hP hK hk hop
    by_cases hjl : j < 256
    · have hjl2 : (j : Int) < 256 := by omega
      go_wp2_with (go_quiet (fail))
      go_loopw [6, 7] (fun vn vi wi => ∃ i : Nat, vi = .int .i64 (i : Int) ∧ i ≤ n ∧ vn = .bool ((l.take i).any (inR j)) ∧ Hid (Kept wr wi)) (fun _ vi _ => n - (intOf vi).toNat)
      case atStart => exact ⟨0, rfl, Nat.zero_le _, rfl, Kept.refl _⟩
      case round =>
        obtain ⟨i, rfl, hi, rfl, HKi⟩ := hrel
        obtain ⟨na, hna⟩ : ∃ x, (l.take i).any (inR j) = x := ⟨_, rfl⟩
        rw [hna]
        have HNA := hide1 hna
        clear hna
        by_cases hlt : (i : Int) < (n : Int)
        · obtain ⟨q, hq⟩ : ∃ q, l[i]? = some q := ⟨_, List.getElem?_eq_getElem (by have := HNL.out; omega)⟩
          have HQ := hide1 hq
          have HAN := hide1 (any_next (i := j) hq)
          rw [HNA.out] at HAN
          obtain ⟨g, u, e1, hg, hnc, g0, g1, g2, g3, g4, g5, gu⟩ := (HO.out.keep (kept_on HK.out HKi.out)).cells_at (rangesP_at hq)
          subst e1
          change wr.cell? _ = some (.int .i64 q.1) at g1
          change wr.cell? _ = some (.int .i64 q.2) at g2
          obtain ⟨x, y⟩ := q
          dsimp only at g1 g2
          have hcap : (n : Int) ≤ (cv : Int) := by omega
          clear gu hq g0 g3 g4 g5
          cases na with
          | true =>
            go_wp2_with (go_quiet (fail))
            go_roundw
            case rel => exact ⟨i + 1, by go_num, by omega, by rw [HAN.out]; rfl, by first | exact HKi | exact hide1 (gtrans HKi.out (drewN_kept _ _))⟩
            case measure => simp [intOf]; omega
          | false =>
            by_cases hx : x ≤ (j : Int)
            · by_cases hy : (j : Int) ≤ y
              · have HR : Hid (inR j (x, y) = true) := by show _ = _; simp [inR, hx, hy]
                have hx2 : (j : Int) ≥ x := hx
                go_wp2_with (go_quiet (fail))
                go_roundw
                case rel => exact ⟨i + 1, by go_num, by omega, by rw [HAN.out, HR.out]; rfl, by first | exact HKi | exact hide1 (gtrans HKi.out (drewN_kept _ _))⟩
                case measure => simp [intOf]; omega
              · have HR : Hid (inR j (x, y) = false) := by show _ = _; simp [inR, hy]
                have hx2 : (j : Int) ≥ x := hx
                have dy : decide ((j : Int) ≤ y) = false := decide_eq_false hy
                go_wp2_with (go_quiet (fail))
                go_roundw
                case rel => exact ⟨i + 1, by go_num, by omega, by rw [HAN.out, HR.out]; rfl, by first | exact HKi | exact hide1 (gtrans HKi.out (drewN_kept _ _))⟩
                case measure => simp [intOf]; omega
            · have HR : Hid (inR j (x, y) = false) := by show _ = _; simp [inR, hx]
              have dx : decide (x ≤ (j : Int)) = false := decide_eq_false hx
              have dx2 : decide ((j : Int) ≥ x) = false := decide_eq_false hx
              go_wp2_with (go_quiet (fail))
              go_roundw
              case rel => exact ⟨i + 1, by go_num, by omega, by rw [HAN.out, HR.out]; rfl, by first | exact HKi | exact hide1 (gtrans HKi.out (drewN_kept _ _))⟩
              case measure => simp [intOf]; omega
        · have HNJ : Hid (N j = na) := by
            show _ = _
            rw [HNN.out, ← HNA.out, List.take_of_length_le (by have := HNL.out; omega)]
          have HP2 := hide1 (HP.out.keep HKi.out)
          have HK2 := hide1 (kept_on HK.out HKi.out)
          cases na with
          | true =>
            have HRT : Hid (restTo N (j + 1) = restTo N j) := by show _ = _; rw [restTo, HNJ.out]; rfl
            go_wp2_with (go_quiet (fail))
            go_roundw
            case rel => exact ⟨j + 1, by go_num, by omega, by rw [show j + 1 - 1 = j by omega, HNJ.out]; simp, by rw [HRT.out]; exact HP2.out, HK2.out⟩
            case measure => simp [intOf]; omega
          | false =>
            cases op with
            | true =>
              have hop := HOP.out
              have hj0 : 0 < j := by by_cases h : 0 < j; exact h; simp [h] at hop
              have hnp : N (j - 1) = false := by simpa [hj0] using hop
              have HRT : Hid (restTo N (j + 1) = setLast (restTo N j) j) := by show _ = _; rw [restTo, HNJ.out]; simp [hj0, hnp]
              have hkp : 0 < k := by
                have := restTo_pos N (j - 1) hnp
                rw [show j - 1 + 1 = j by omega] at this
                have h2 := HKL.out
                simp [rangesP] at h2
                omega
              obtain ⟨k1, rfl⟩ : ∃ k1, k = k1 + 1 := ⟨k - 1, by omega⟩
              have hlr : (restTo N j).length = k1 + 1 := by have h2 := HKL.out; simpa [rangesP] using h2
              obtain ⟨q, hq⟩ : ∃ q, (restTo N j)[k1]? = some q := ⟨_, List.getElem?_eq_getElem (by omega)⟩
              obtain ⟨g, u, e1, hg, hnc, g0, g1, g2, g3, g4, g5, gu⟩ := HP2.out.cells_at (rangesP_at hq)
              subst e1
              have gf := HP2.out.free_at (k1 * 6 + 2)
              have hgb := (HP2.out.lt g rfl).1
              have HLR := hide1 hlr
              have hcr : ((k1 : Int) + 1) ≤ (cr : Int) := by omega
              clear g0 g1 g3 g4 g5 gu hq hlr hkp hop hnp
              go_wp2_with (go_quiet (fail))
              go_roundw
              case rel =>
                refine ⟨j + 1, by go_num, by omega, by rw [show j + 1 - 1 = j by omega, HNJ.out]; simp, ?_, kept_new HK2.out hgb⟩
                rw [HRT.out]
                unfold setLast
                rw [HLR.out]
                exact HP2.out.setTo (by have := HLR.out; omega)
              case measure => simp [intOf]; omega
            | false =>
              have HRT : Hid (restTo N (j + 1) = restTo N j ++ [((j : Int), (j : Int))]) := by
                show _ = _
                have hop := HOP.out
                rw [restTo, HNJ.out, if_neg (by simp), if_neg]
                intro h
                simp [h.1, h.2] at hop
              have hwl : w.heap.size ≤ wr.heap.size := HK2.out.2.2.2.1
              go_wp2_with (first
                | (at_builtin; go_must (refine wpl_append_pat rfl _ _ rfl _ w.heap.size (fun d => w.heap.size ≤ d) _ (rangesP (restTo N j)) k HKL.out (by rfl) (HP2.out.keep ((Kept.refl _).alloc _ _)) _ (rangeP j j) (.slice none 0 0) (by rfl) (BoxAt.new _ _ _ _ _ _ _) (kids_nil _ _ _ _ _ _ rfl) (by rw [HKL.out]; omega) (by simp; omega) ?_; intro g9 c9 w9 ho9 hg9; have HK2 := hide1 (keptP_grown (HK2.out.alloc _ _) (HP2.out.keep ((Kept.refl _).alloc _ _)) (by omega) hg9); have HP2 := hide1 ho9; clear ho9 hg9))
                | go_quiet (fail))
              go_roundw
              case rel =>
                refine ⟨j + 1, by go_num, by omega, by rw [show j + 1 - 1 = j by omega, HNJ.out]; simp, ?_, HK2.out⟩
                rw [HRT.out, rangesP_snoc]
                exact HP2.out
              case measure => simp [intOf]; omega
    · have hj6 : j = 256 := by omega
      subst hj6
      go_wp2_with (go_quiet (fail))
      go_ret
      exact ⟨⟨_, rfl, HP.out⟩, HK.out⟩

end Ex
end Go.Proofs.YtnchmhginmaliaaGreatDoor
