import Derived.Test.YtggodknnfpegmaaDoorMSpDr
namespace Go.Proofs.YtggodknnfpegmaaDoor
open Go.RowKit
attribute [local go_sem] Oper.semAt_some
namespace Ex

set_option linter.unusedSimpArgs false in
set_option maxRecDepth 100000 in
set_option maxHeartbeats 8000000 in
theorem dEmpties_is (ps : List ProdM) (x0 x2 : Value) (an ap : Option Addr) (nn cn np cp : Nat) (w : World) (hnn : nn ≤ 128) (hps : ps.length = np) (hp : ProdsAt w (.slice ap np cp) ps) (hok : ∀ p ∈ ps, (0 ≤ p.1 ∧ p.1 < (nn : Int)) ∧ ∀ x ∈ p.2, x.1 = 3 → 0 ≤ x.2 ∧ x.2 < (nn : Int)) :
    Calls Tryd.prog 80 #[.agg #[x0, .slice an nn cn, x2, .slice ap np cp]] w (EmpR ps nn w) := by
  have HK1 : Hid (Kept w (w.alloc (.cells #[x0, .slice an nn cn, x2, .slice ap np cp] 26))) := (Kept.refl w).alloc _ _
  have HB1 := hide1 (SBox.new w x0 (.slice an nn cn) x2 (.slice ap np cp))
  have HP := hide1 hp
  have HPS := hide1 hps
  have HOK := hide1 hok
  have HNN := hide1 hnn
  obtain ⟨_, _, e1, hc, hn⟩ := hp.len
  simp only [Value.slice.injEq] at e1
  obtain ⟨rfl, en, rfl⟩ := e1
  clear en
  rw [hps] at hc hn
  have gn : (nn : Int) ≤ 128 := by omega
  have gp : (np : Int) ≤ 17592186044416 := by omega
  clear hp hps hok
  go_enter Tryd.func80, Tryd.ntmps80
  go_upto_region 1 with fail
  obtain ⟨W, hW⟩ : ∃ W, w.alloc (.cells #[x0, .slice an nn cn, x2, .slice ap np cp] 26) = W := ⟨_, rfl⟩
  rw [hW] at HK1 HB1 ⊢
  clear hW
  obtain ⟨b, hb⟩ : ∃ b, w.heap.size = b := ⟨_, rfl⟩
  rw [hb] at HB1 ⊢
  clear hb
  obtain ⟨s0, s1, s2, s3⟩ := HB1.out.facts
  have hmk := run_tabI nn (by omega) W
  go_upto_region 2 with fail
  clear s0 s1 s2 s3 hmk
  have HK2 : Hid (Kept W (W.alloc (.cells (Array.replicate nn (.int .i64 0)) 3))) := (Kept.refl _).alloc _ _
  have HT2 := hide1 (tabI_new nn W)
  have HWG : Hid (w.heap.size ≤ W.heap.size) := HK1.out.size
  obtain ⟨W2, hW2⟩ : ∃ W2, W.alloc (.cells (Array.replicate nn (.int .i64 0)) 3) = W2 := ⟨_, rfl⟩
  rw [hW2] at HK2 HT2 ⊢
  clear hW2
  obtain ⟨g, hg⟩ : ∃ g, W.heap.size = g := ⟨_, rfl⟩
  rw [hg] at HT2 HWG ⊢
  have HG : Hid (W.heap.size ≤ g) := Nat.le_of_eq hg
  clear hg
  go_wp2_with fail
  go_loopw [4] (DeI ps nn g W) (fun f wr => 2 * sumV (vOf (rdTabI g wr)) nn + flagN f)
  case atStart => exact ⟨List.replicate nn 0, true, rfl, List.length_replicate, fun x hx => (by rw [List.eq_of_mem_replicate hx]; omega), fun n => ⟨by rw [vOf_zero]; omega, fun h => (by rw [vOf_zero] at h; omega)⟩, fun h => (by cases h), HT2, HK2.out⟩
  case round =>
    obtain ⟨ms, fl, rfl, HML, HSM, HSO, HFI, HTr, HKr⟩ := hrel
    cases fl with
    | true =>
      go_wp2_with fail
      go_loopw [4, 5] (DeJ ps nn g ms W) (fun _ i _ => np - (intOf i).toNat)
      case atStart => exact ⟨0, ms, false, rfl, rfl, Nat.zero_le _, ⟨HML.out, HSM.out, EzStep.start ps _, ⟨fun _ => rfl, fun h => (by cases h)⟩, HTr.out, HKr.out⟩⟩
      case round =>
        obtain ⟨j, ns, f2, rfl, rfl, hj, HS⟩ := hrel
        rw [HPS.out] at hj
        obtain ⟨s0, s1, s2, s3⟩ := (HB1.out.keep HS.out.kept).facts
        by_cases hlt : (j : Int) < (np : Int)
        · obtain ⟨p, hp⟩ : ∃ p, ps[j]? = some p := ⟨_, List.getElem?_eq_getElem (by have := HPS.out; omega)⟩
          obtain ⟨cb, o2, cs, ea, hcb, hlen, hcell, v', hcs, hrt⟩ := SliceOf.el (HP.out.keep (gtrans HK1.out HS.out.kept)) hp
          subst ea hcs
          have k0 : wr.cell? ⟨cb, o2 + j * 2, none⟩ = some (.int .i64 p.1) := hcell 0 _ rfl
          have k1 := hcell 1 _ rfl
          have gjc : (j : Int) < (cp : Int) := by omega
          have HOKp := hide1 (HOK.out p (List.mem_of_getElem? hp))
          have HPJ := hide1 hp
          obtain ⟨ar, cr, rfl, hcr, hnr⟩ := hrt.len
          obtain ⟨nr, hnr2⟩ : ∃ nr, p.2.length = nr := ⟨_, rfl⟩
          rw [hnr2] at hrt hcr hnr k1
          have HNR := hide1 hnr2
          have HRT := hide1 hrt
          obtain ⟨l, hl⟩ : ∃ l : Nat, p.1 = (l : Int) := ⟨p.1.toNat, by have := HOKp.out.1.1; omega⟩
          have HLE : Hid (p.1.toNat = l) := by show _ = _; omega
          have gln : (l : Int) < (nn : Int) := by have := HOKp.out.1; omega
          rw [hl] at k0
          clear hp hcell hrt hnr2 hl
          have HPB := hide1 (PBox.new wr (.int .i64 (l : Int)) (.slice ar nr cr))
          have HK4 : Hid (Kept wr (wr.alloc (.cells #[.int .i64 (l : Int), .slice ar nr cr] 40))) := (Kept.refl wr).alloc _ _
          go_upto_region 9 with fail
          clear k0 k1 s0 s1 s2 s3
          obtain ⟨W4, hW4⟩ : ∃ W4, wr.alloc (.cells #[.int .i64 (l : Int), .slice ar nr cr] 40) = W4 := ⟨_, rfl⟩
          rw [hW4] at HPB HK4 ⊢
          clear hW4
          obtain ⟨pb, hpb⟩ : ∃ pb, wr.heap.size = pb := ⟨_, rfl⟩
          rw [hpb] at HPB ⊢
          clear hpb
          obtain ⟨p0, p1⟩ := HPB.out.cells
          have HS4 := hide1 (HS.out.keep HK4.out)
          have HRT4 := hide1 (HRT.out.keep HK4.out)
          have gnr : (nr : Int) ≤ 17592186044416 := by omega
          obtain ⟨yl, hyl⟩ : ∃ yl, ns[l]? = some yl := ⟨_, List.getElem?_eq_getElem (by have := HS4.out.len; omega)⟩
          have cl0 := HS4.out.tab.cell hyl
          have zl0 := HS4.out.tab.free l
          have gyl : (yl : Int) ≤ 256 := by have := HS4.out.small yl (List.mem_of_getElem? hyl); omega
          have HYL := hide1 hyl
          clear hyl
          go_wp2_with fail
          go_loopw [7, 8] (DeK (vOf ns) p.2 W4) (fun _ i _ => nr - (intOf i).toNat)
          case atStart => exact ⟨0, 1, rfl, rfl, Nat.zero_le _, by omega, by omega, rfl, rfl⟩
          case round =>
            obtain ⟨m, n, rfl, rfl, hm, gmn, gn0, HTC, HWM⟩ := hrel
            have hWM := HWM.out.symm
            subst hWM
            rw [HNR.out] at hm
            by_cases hmt : (m : Int) < (nr : Int)
            · obtain ⟨x, hx⟩ : ∃ x, p.2[m]? = some x := ⟨_, List.getElem?_eq_getElem (by have := HNR.out; omega)⟩
              obtain ⟨cr2, or2, cs2, ea2, hcb2, hlen2, hcell2, hcs2⟩ := SliceOf.el HRT4.out hx
              have hcs2 : cs2 = [.int .i64 x.1, .int .i64 x.2] := hcs2
              subst ea2 hcs2
              have k0 : W4.cell? ⟨cr2, or2 + m * 2, none⟩ = some (.int .i64 x.1) := hcell2 0 _ rfl
              have k1 : W4.cell? ⟨cr2, or2 + m * 2 + 1, none⟩ = some (.int .i64 x.2) := hcell2 1 _ rfl
              have gmc : (m : Int) < (cr : Int) := by omega
              have HOX := hide1 (HOKp.out.2 x (List.mem_of_getElem? hx))
              have HXM := hide1 hx
              obtain ⟨kd, sn⟩ := x
              dsimp only at k0 k1
              clear hx hcell2
              by_cases h3 : kd = 3
              · subst h3
                obtain ⟨hn0, hn1⟩ := HOX.out rfl
                obtain ⟨q, rfl⟩ : ∃ q : Nat, sn = (q : Int) := ⟨sn.toNat, by simp only at hn0; omega⟩
                have gqn : (q : Int) < (nn : Int) := by simp only at hn1; omega
                obtain ⟨y, hy⟩ : ∃ y, ns[q]? = some y := ⟨_, List.getElem?_eq_getElem (by have := HS4.out.len; omega)⟩
                have c0 := HS4.out.tab.cell hy
                have gy : (y : Int) ≤ 256 := by have := HS4.out.small y (List.mem_of_getElem? hy); omega
                have HY := hide1 hy
                clear hy hn0 hn1
                by_cases hy0 : y = 0
                · subst hy0
                  rw [show ((0 : Nat) : Int) = 0 from rfl] at c0 gy
                  have HBIG : Hid (257 ≤ treeC (vOf ns) p.2 1) := by
                    show _ ≤ _
                    rw [HTC.out, tree_drop HXM.out rfl, show (((3 : Int), (q : Int)) : SymM).2.toNat = q from Int.toNat_natCast q, vOf_none HY.out]
                    exact tree_big _ _ _ (by omega)
                  have HS5 := hide1 (HS4.out.same HPJ.out (Nat.le_trans ((HS4.out.step.sound HSO.out _).1) HBIG.out))
                  go_wp2_with fail
                  go_roundw
                  case rel => exact ⟨j + 1, ns, f2, rfl, by go_num, by rw [HPS.out]; omega, HS5⟩
                  case measure => simp [intOf]; omega
                · have gy0 : ((y : Int) == 0) = false := by simp; omega
                  have HT2 : Hid (treeC (vOf ns) p.2 1 = treeC (vOf ns) (p.2.drop (m + 1)) (n + y)) := by
                    show _ = _
                    rw [HTC.out, tree_drop HXM.out rfl, show (((3 : Int), (q : Int)) : SymM).2.toNat = q from Int.toNat_natCast q, vOf_at HY.out hy0]
                  clear hy0
                  go_wp2_with fail
                  go_roundw
                  case rel => exact ⟨m + 1, n + y, by go_num, by go_num, by rw [HNR.out]; omega, by omega, by omega, HT2, rfl⟩
                  case measure => simp [intOf]; omega
              · have b3 : (kd != 3) = true := by simpa using h3
                have HBIG : Hid (257 ≤ treeC (vOf ns) p.2 1) := by
                  show _ ≤ _
                  rw [HTC.out, tree_stop HXM.out h3]
                  exact Nat.le_refl _
                have HS5 := hide1 (HS4.out.same HPJ.out (Nat.le_trans ((HS4.out.step.sound HSO.out _).1) HBIG.out))
                clear h3
                go_wp2_with fail
                go_roundw
                case rel => exact ⟨j + 1, ns, f2, rfl, by go_num, by rw [HPS.out]; omega, HS5⟩
                case measure => simp [intOf]; omega
            · have HTN : Hid (treeC (vOf ns) p.2 1 = n) := by
                show _ = _
                rw [HTC.out, List.drop_eq_nil_of_le (by have := HNR.out; omega)]
                rfl
              have HLN : Hid (l < nn) := by show _ < _; omega
              by_cases h256 : (n : Int) ≤ 256
              · by_cases hy0 : yl = 0
                · subst hy0
                  rw [show ((0 : Nat) : Int) = 0 from rfl] at cl0 gyl
                  have HS5 := hide1 (HS4.out.put HG.out HPJ.out HLE.out HLN.out gn0 (by omega) HTN.out (by rw [vOf_none HYL.out]; omega))
                  go_wp2_with fail
                  go_roundw
                  case rel => exact ⟨j + 1, ns.set l n, true, rfl, by go_num, by rw [HPS.out]; omega, HS5⟩
                  case measure => simp [intOf]; omega
                · have gy0 : ((yl : Int) == 0) = false := by simp; omega
                  by_cases hny : (n : Int) < (yl : Int)
                  · have HS5 := hide1 (HS4.out.put HG.out HPJ.out HLE.out HLN.out gn0 (by omega) HTN.out (by rw [vOf_at HYL.out hy0]; omega))
                    clear hy0
                    go_wp2_with fail
                    go_roundw
                    case rel => exact ⟨j + 1, ns.set l n, true, rfl, by go_num, by rw [HPS.out]; omega, HS5⟩
                    case measure => simp [intOf]; omega
                  · have HS5 := hide1 (HS4.out.same HPJ.out (by rw [HLE.out, HTN.out, vOf_at HYL.out hy0]; omega))
                    clear hy0
                    go_wp2_with fail
                    go_roundw
                    case rel => exact ⟨j + 1, ns, f2, rfl, by go_num, by rw [HPS.out]; omega, HS5⟩
                    case measure => simp [intOf]; omega
              · have HS5 := hide1 (HS4.out.same HPJ.out (Nat.le_trans ((HS4.out.step.sound HSO.out _).1) (by rw [HTN.out]; omega)))
                go_wp2_with fail
                go_roundw
                case rel => exact ⟨j + 1, ns, f2, rfl, by go_num, by rw [HPS.out]; omega, HS5⟩
                case measure => simp [intOf]; omega
        · have hjn : j = ps.length := by have := HPS.out; omega
          have HS2 : Hid (EmpS ps nn g ms W wr ns f2 ps.length) := hjn ▸ HS
          go_wp2_with fail
          go_roundw
          case rel =>
            refine ⟨ns, f2, rfl, HS2.out.len, HS2.out.small, HS2.out.step.sound HSO.out, fun h => ?_, HS2.out.tab, HS2.out.kept⟩
            have e := HS2.out.flag.1 h
            have h2 := HS2.out.step
            rw [e] at h2 ⊢
            exact h2
          case measure =>
            rw [HS2.out.tab.rd, HTr.out.rd]
            cases f2 with
            | false => rw [HS2.out.flag.1 rfl]; simp [flagN]
            | true =>
              obtain ⟨i, hi, hv⟩ := HS2.out.flag.2 rfl
              have := sumV_lt HS2.out.step.down hi hv
              simp [flagN]
              omega
    | false =>
      have HFN := hide1 (EzStep.done (HFI.out rfl) HSO.out)
      go_wp2_with fail
      go_ret
      exact ⟨ms, g, rfl, HML.out, ⟨HFN.out, HSM.out⟩, HWG.out, HTr.out, gtrans HK1.out HKr.out⟩

end Ex
end Go.Proofs.YtggodknnfpegmaaDoor
namespace Go.Proofs.YtggodknnfpegmaaDoor
open Go.RowKit
attribute [local go_sem] Oper.semAt_some
namespace Ex

def DgI (P : Nat → Prop) (W : World) (vi : Value) (wr : World) : Prop := ∃ j : Nat, vi = .int .i64 (j : Int) ∧ Hid (∀ k, k < j → P k) ∧ Hid (wr = W)
set_option linter.unusedSimpArgs false in
set_option maxRecDepth 100000 in
set_option maxHeartbeats 8000000 in
theorem dEmptied_is (ps : List ProdM) (x0 x2 : Value) (an ap : Option Addr) (nn cn np cp : Nat) (w : World) (hnn : nn ≤ 128) (hps : ps.length = np) (hp : ProdsAt w (.slice ap np cp) ps) (hok : ∀ p ∈ ps, (0 ≤ p.1 ∧ p.1 < (nn : Int)) ∧ ∀ x ∈ p.2, x.1 = 3 → 0 ≤ x.2 ∧ x.2 < (nn : Int)) :
    Calls Tryd.prog 46 #[.agg #[x0, .slice an nn cn, x2, .slice ap np cp]] w (PairR (EmptyQ ps nn) w) := by
  have HK1 : Hid (Kept w (w.alloc (.cells #[x0, .slice an nn cn, x2, .slice ap np cp] 26))) := (Kept.refl w).alloc _ _
  have HB1 := hide1 (SBox.new w x0 (.slice an nn cn) x2 (.slice ap np cp))
  have HP := hide1 hp
  have HPS := hide1 hps
  have HOK := hide1 hok
  have HNN := hide1 hnn
  have gn : (nn : Int) ≤ 128 := by omega
  clear hp hps hok
  go_enter Tryd.func46, Tryd.ntmps46
  go_upto_region 1 with fail
  obtain ⟨W, hW⟩ : ∃ W, w.alloc (.cells #[x0, .slice an nn cn, x2, .slice ap np cp] 26) = W := ⟨_, rfl⟩
  rw [hW] at HK1 HB1 ⊢
  clear hW
  obtain ⟨b, hb⟩ : ∃ b, w.heap.size = b := ⟨_, rfl⟩
  rw [hb] at HB1 ⊢
  clear hb
  obtain ⟨s0, s1, s2, s3⟩ := HB1.out.facts
  go_upto_region 2 with (go_at_call 80; refine (dEmpties_is ps x0 x2 an ap nn cn np cp _ HNN.out HPS.out (HP.out.keep HK1.out) HOK.out).mono ?_; rintro e w2 ⟨ms, g, rfl, h1, h2, h3, h4, h5⟩; have HML := hide1 h1; have HEZ := hide1 h2.1; have HSM := hide1 h2.2; have HT := hide1 h4; have HK2 := hide1 h5; clear h1 h2 h3 h4 h5)
  clear s0 s1 s2 s3
  obtain ⟨s0, s1, s2, s3⟩ := (HB1.out.keep HK2.out).facts
  go_upto_region 3 with (go_at_call 28; refine (dNullable_is ps x0 x2 an ap nn cn np cp _ HNN.out HPS.out (HP.out.keep (gtrans HK1.out HK2.out)) HOK.out).mono ?_; rintro e w3 ⟨es, h, rfl, h1, h2, h3, h4, h5⟩; have HEL := hide1 h1; have HEM := hide1 h2; have HE := hide1 h4; have HK3 := hide1 h5; clear h1 h2 h3 h4 h5)
  clear s0 s1 s2 s3
  have HT3 := hide1 (HT.out.keep HK3.out)
  have HKw := hide1 (gtrans HK1.out (gtrans HK2.out HK3.out))
  go_wp2_with fail
  go_loopw [6] (DgI (fun i => Mk false ps i → ∃ k, k ≤ 256 ∧ Ez ps i k) w3) (fun i _ => nn - (intOf i).toNat)
  case atStart => exact ⟨0, rfl, fun k hk => by omega, rfl⟩
  case round =>
    obtain ⟨i, rfl, HI, HWI⟩ := hrel
    have hWI := HWI.out.symm
    subst hWI
    by_cases hli : (i : Int) < (nn : Int)
    · obtain ⟨y, hy⟩ : ∃ y, es[i]? = some y := ⟨_, List.getElem?_eq_getElem (by have := HEL.out; omega)⟩
      obtain ⟨z, hz⟩ : ∃ z, ms[i]? = some z := ⟨_, List.getElem?_eq_getElem (by have := HML.out; omega)⟩
      have c0 := HE.out.cell hy
      have c1 := HT3.out.cell hz
      have HBIT : Hid (y = true ↔ Mk false ps i) := by
        show _ ↔ _
        rw [← HEM.out i, bits_test, List.getD_eq_getElem?_getD, hy]
        rfl
      have HZ := hide1 hz
      clear hy hz
      cases y with
      | false =>
        have HN : Hid (∀ k, k < i + 1 → Mk false ps k → ∃ q, q ≤ 256 ∧ Ez ps k q) := by
          intro k hk
          rcases Nat.lt_or_ge k i with h | h
          · exact HI.out k h
          · rw [show k = i by omega]
            intro hm
            have := HBIT.out.2 hm
            cases this
        go_wp2_with fail
        go_roundw
        case rel => exact ⟨i + 1, by go_num, HN, rfl⟩
        case measure => simp [intOf]; omega
      | true =>
        by_cases hz0 : z = 0
        · subst hz0
          rw [show ((0 : Nat) : Int) = 0 from rfl] at c1
          have HNO : Hid (¬ (Mk false ps i → ∃ k, k ≤ 256 ∧ Ez ps i k)) := by
            intro h
            exact (ez_small HEZ.out i).1 (h (HBIT.out.1 rfl)) (vOf_none HZ.out)
          go_wp2_with fail
          go_ret2
          exact ⟨(6, (i : Int)), rfl, .inl ⟨i, by omega, HNO.out, HI.out, rfl⟩, HKw.out⟩
        · have gz0 : ((z : Int) == 0) = false := by simp; omega
          have HN : Hid (∀ k, k < i + 1 → Mk false ps k → ∃ q, q ≤ 256 ∧ Ez ps k q) := by
            intro k hk
            rcases Nat.lt_or_ge k i with h | h
            · exact HI.out k h
            · rw [show k = i by omega]
              intro _
              exact (ez_small HEZ.out i).2 (by rw [vOf_at HZ.out hz0]; have := HSM.out z (List.mem_of_getElem? HZ.out); omega)
          clear hz0
          go_wp2_with fail
          go_roundw
          case rel => exact ⟨i + 1, by go_num, HN, rfl⟩
          case measure => simp [intOf]; omega
    · go_wp2_with fail
      go_ret2
      exact ⟨(0, 0), rfl, .inr ⟨fun k hk => HI.out k (by omega), rfl⟩, HKw.out⟩

end Ex
end Go.Proofs.YtggodknnfpegmaaDoor
namespace Go.Proofs.YtggodknnfpegmaaDoor
open Go.RowKit
attribute [local go_sem] Oper.semAt_some
namespace Ex

theorem passed_zero {k : Nat} (lex : List (LexM k)) (ps : List ProdM) (nn nl : Nat) (st : Int) : Passed lex ps nn nl st 0 := ⟨fun _ h => h, fun h => by omega, fun h => by omega⟩
/-- Where the first two checks have told nothing: what a symbol is. -/
theorem Passed.exact {k : Nat} {lex : List (LexM k)} {ps : List ProdM} {nn nl : Nat} {st : Int} {j : Nat} (h : Passed lex ps nn nl st j) (hlex : lex.length = nl) (hj : 2 ≤ j) : ∀ p ∈ ps, (0 ≤ p.1 ∧ p.1 < (nn : Int)) ∧ ∀ x ∈ p.2, symErr lex nn x = 0 := by
  obtain ⟨h1, _, _⟩ := h.facts hlex hj
  have hp := h.places hj
  unfold placesP at hp
  rw [if_pos h1.2.2] at hp
  exact places_good hp
theorem exact_names {k : Nat} {lex : List (LexM k)} {ps : List ProdM} {nn nl : Nat} (hlex : lex.length = nl) (h : ∀ p ∈ ps, (0 ≤ p.1 ∧ p.1 < (nn : Int)) ∧ ∀ x ∈ p.2, symErr lex nn x = 0) : ∀ p ∈ ps, (0 ≤ p.1 ∧ p.1 < (nn : Int)) ∧ ∀ x ∈ p.2, x.1 = 3 → 0 ≤ x.2 ∧ x.2 < (nn : Int) := fun p hp => ⟨(h p hp).1, fun x hx h3 => by
  rcases sym_three hlex ((h p hp).2 x hx) with e | e | e
  · omega
  · omega
  · exact e.2⟩
set_option linter.unusedSimpArgs false in
set_option maxRecDepth 100000 in
set_option maxHeartbeats 8000000 in
/-- The document's Check of any spec. -/
theorem dCheck_is (k : Nat) (lex : List (LexM k)) (ps : List ProdM) (al an ap : Option Addr) (nl cl nn cn np cp : Nat) (st : Int) (w : World) (hnn : nn ≤ 17592186044416) (hlex : lex.length = nl) (hps : ps.length = np) (hl : LexAt w k (.slice al nl cl) lex) (hp : ProdsAt w (.slice ap np cp) ps) :
    Calls Tryd.prog 18 #[.agg #[.slice al nl cl, .slice an nn cn, .int .i64 st, .slice ap np cp]] w (PairR (CheckQ lex ps nn nl st) w) := by
  have HK1 : Hid (Kept w (w.alloc (.cells #[.slice al nl cl, .slice an nn cn, .int .i64 st, .slice ap np cp] 26))) := (Kept.refl w).alloc _ _
  have HB1 := hide1 (SBox.new w (.slice al nl cl) (.slice an nn cn) (.int .i64 st) (.slice ap np cp))
  have HP := hide1 hp
  have HPS := hide1 hps
  have HL := hide1 hl
  have HLEN := hide1 hlex
  have HNN := hide1 hnn
  have HNL : Hid (nl ≤ 17592186044416) := by obtain ⟨_, _, _, _, h⟩ := hl.len; rw [hlex] at h; exact h
  have HP0 := hide1 (passed_zero lex ps nn nl st)
  clear hp hps hl hlex hnn
  go_enter Tryd.func18, Tryd.ntmps18
  go_upto_region 1 with fail
  obtain ⟨W, hW⟩ : ∃ W, w.alloc (.cells #[.slice al nl cl, .slice an nn cn, .int .i64 st, .slice ap np cp] 26) = W := ⟨_, rfl⟩
  rw [hW] at HK1 HB1 ⊢
  clear hW
  obtain ⟨b, hb⟩ : ∃ b, w.heap.size = b := ⟨_, rfl⟩
  rw [hb] at HB1 ⊢
  clear hb
  obtain ⟨s0, s1, s2, s3⟩ := HB1.out.facts
  obtain ⟨lb, hlb⟩ : ∃ lb, longB nl nn ps = lb := ⟨_, rfl⟩
  have HLB := hide1 hlb
  have HC0 := hide1 (dLong_is ps al an ap nl cl nn cn np cp (.int .i64 st) W HNL.out HNN.out HPS.out (HP.out.keep HK1.out))
  rw [hlb] at HC0
  clear hlb
  cases lb with
  | true =>
    have HQ : Hid (CheckQ lex ps nn nl st (2, 0)) := HP0.out.stop (by omega) (by show LongQ nl nn ps (2, 0); unfold LongQ; rw [HLB.out]; rfl) (by show (2 : Int) ≠ 0; decide)
    go_wp2_with (go_at_call 42; refine HC0.out.mono ?_; rintro e w2 ⟨rfl, hk2⟩; have HK2 := hide1 hk2; clear hk2)
    go_ret2
    exact ⟨(2, 0), rfl, HQ.out, gtrans HK1.out HK2.out⟩
  | false =>
    have HP1 := hide1 (HP0.out.next (by omega) (x := (0, 0)) (by show LongQ nl nn ps (0, 0); unfold LongQ; rw [HLB.out]; rfl) rfl)
    go_upto_region 3 with (go_at_call 42; refine HC0.out.mono ?_; rintro e w2 ⟨rfl, hk2⟩; have HK2 := hide1 (gtrans HK1.out hk2); have HB2 := hide1 (HB1.out.keep hk2); clear hk2)
    clear s0 s1 s2 s3 HC0
    obtain ⟨s0, s1, s2, s3⟩ := HB2.out.facts
    obtain ⟨⟨xe, xa⟩, hx⟩ : ∃ x, placesP lex nn st ps = x := ⟨_, rfl⟩
    have HX := hide1 hx
    have HC1 := hide1 (dIndices_is k lex ps al an ap nl cl nn cn np cp st w2 HNN.out HLEN.out HPS.out (HL.out.keep HK2.out) (HP.out.keep HK2.out))
    rw [hx] at HC1
    clear hx
    go_upto_region 4 with (go_at_call 43; refine HC1.out.mono ?_; rintro e w3 ⟨rfl, hk3⟩; have HK3 := hide1 (gtrans HK2.out hk3); have HB3 := hide1 (HB2.out.keep hk3); clear hk3)
    clear s0 s1 s2 s3 HC1
    have HQ1 : Hid (chkQ lex ps nn nl st 1 (xe, xa)) := by show PlacesQ lex nn st ps (xe, xa); unfold PlacesQ; rw [HX.out]
    by_cases hx1 : xe = 0
    · subst hx1
      have HP2 := hide1 (HP1.out.next (by omega) (x := (0, xa)) HQ1.out rfl)
      have HFA := hide1 (HP2.out.facts HLEN.out (Nat.le_refl _))
      have HEX := hide1 (HP2.out.exact HLEN.out (Nat.le_refl _))
      have HEN := hide1 (exact_names HLEN.out HEX.out)
      obtain ⟨stn, rfl⟩ : ∃ stn : Nat, st = (stn : Int) := ⟨st.toNat, by have := HFA.out.1; omega⟩
      have HSTN : Hid (stn < nn) := by have := HFA.out.1; show _ < _; omega
      obtain ⟨s0, s1, s2, s3⟩ := HB3.out.facts
      go_upto_region 6 with (go_at_call 44; refine (dReached_is k lex ps al an ap nl cl nn cn np cp stn w3 HFA.out.1.1 HFA.out.1.2.1 HSTN.out HLEN.out HPS.out (HL.out.keep HK3.out) (HP.out.keep HK3.out) HEX.out).mono ?_; rintro e w4 ⟨⟨ye, ya⟩, rfl, hq4, hk4⟩; have HQ2 := hide1 hq4; have HK4 := hide1 (gtrans HK3.out hk4); have HB4 := hide1 (HB3.out.keep hk4); clear hq4 hk4)
      clear s0 s1 s2 s3
      by_cases hx2 : ye = 0
      · subst hx2
        have HP3 := hide1 (HP2.out.next (by omega) (x := (0, ya)) HQ2.out rfl)
        obtain ⟨s0, s1, s2, s3⟩ := HB4.out.facts
        go_upto_region 8 with (go_at_call 45; refine (dProductive_is ps (.slice al nl cl) (.int .i64 (stn : Int)) an ap nn cn np cp w4 HFA.out.1.2.1 HPS.out (HP.out.keep HK4.out) HEN.out).mono ?_; rintro e w5 ⟨⟨ze, za⟩, rfl, hq5, hk5⟩; have HQ3 := hide1 hq5; have HK5 := hide1 (gtrans HK4.out hk5); have HB5 := hide1 (HB4.out.keep hk5); clear hq5 hk5)
        clear s0 s1 s2 s3
        by_cases hx3 : ze = 0
        · subst hx3
          have HP4 := hide1 (HP3.out.next (by omega) (x := (0, za)) HQ3.out rfl)
          obtain ⟨s0, s1, s2, s3⟩ := HB5.out.facts
          go_wp2_with (go_at_call 46; refine (dEmptied_is ps (.slice al nl cl) (.int .i64 (stn : Int)) an ap nn cn np cp w5 HFA.out.1.2.1 HPS.out (HP.out.keep HK5.out) HEN.out).mono ?_; rintro e w6 ⟨⟨ue, ua⟩, rfl, hq6, hk6⟩; have HQ4 := hide1 hq6; have HK6 := hide1 (gtrans HK5.out hk6); clear hq6 hk6)
          go_ret2
          refine ⟨(ue, ua), rfl, ?_, HK6.out⟩
          by_cases hx4 : ue = 0
          · subst hx4
            have ha : ua = 0 := by
              rcases HQ4.out with ⟨i, _, _, _, e⟩ | ⟨_, e⟩
              · simp at e
              · simpa using e
            subst ha
            exact (HP4.out.next (by omega) (x := (0, 0)) HQ4.out rfl).rest (0, 0) rfl
          · exact HP4.out.stop (by omega) (x := (ue, ua)) HQ4.out hx4
        · have b3 : (ze == 0) = false := by simpa using hx3
          have HF := hide1 (HP3.out.stop (by omega) (x := (ze, za)) HQ3.out hx3)
          clear hx3
          go_wp2_with fail
          go_ret2
          exact ⟨(ze, za), rfl, HF.out, HK5.out⟩
      · have b2 : (ye == 0) = false := by simpa using hx2
        have HF := hide1 (HP2.out.stop (by omega) (x := (ye, ya)) HQ2.out hx2)
        clear hx2
        go_wp2_with fail
        go_ret2
        exact ⟨(ye, ya), rfl, HF.out, HK4.out⟩
    · have b1 : (xe == 0) = false := by simpa using hx1
      have HF := hide1 (HP1.out.stop (by omega) (x := (xe, xa)) HQ1.out hx1)
      clear hx1
      go_wp2_with fail
      go_ret2
      exact ⟨(xe, xa), rfl, HF.out, HK3.out⟩

end Ex
end Go.Proofs.YtggodknnfpegmaaDoor
