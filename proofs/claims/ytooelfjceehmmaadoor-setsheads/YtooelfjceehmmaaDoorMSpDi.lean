import Derived.Test.YtooelfjceehmmaaDoorMSpCl
namespace Go.Proofs.YtooelfjceehmmaaDoor
open Go.RowKit
attribute [local go_sem] Oper.semAt_some
namespace Ex

def DiJ {k : Nat} (lex : List (LexM k)) (n2 : Nat) (row : List SymM) (W : World) (vi : Value) (wr : World) : Prop := ∃ m : Nat, vi = .int .i64 (m : Int) ∧ m ≤ row.length ∧ Hid ((wrongP lex n2 row).2 = (wrongF lex n2 m (row.drop m)).2) ∧ Hid (Kept W wr)
set_option linter.unusedSimpArgs false in
set_option maxRecDepth 100000 in
set_option maxHeartbeats 8000000 in
theorem dIndices_is (k : Nat) (lex : List (LexM k)) (ps : List ProdM) (al an ap : Option Addr) (nl cl nn cn np cp : Nat) (st : Int) (w : World) (hnn : nn ≤ 17592186044416) (hlex : lex.length = nl) (hps : ps.length = np) (hl : LexAt w k (.slice al nl cl) lex) (hp : ProdsAt w (.slice ap np cp) ps) :
    Calls Tryd.prog 67 #[.agg #[.slice al nl cl, .slice an nn cn, .int .i64 st, .slice ap np cp]] w fun e w' => e = .returned (.tuple #[.int .i64 (placesP lex nn st ps).2, .int .i64 (placesP lex nn st ps).1]) ∧ Kept w w' := by
  have HK : Hid (Kept w (w.alloc (.cells #[.slice al nl cl, .slice an nn cn, .int .i64 st, .slice ap np cp] 26))) := (Kept.refl w).alloc _ _
  have HB := hide1 (SBox.new w (.slice al nl cl) (.slice an nn cn) (.int .i64 st) (.slice ap np cp))
  have HP := hide1 hp
  have HPS := hide1 hps
  have HL := hide1 hl
  have HLEN := hide1 hlex
  obtain ⟨_, _, e1, hc, hn⟩ := hp.len
  simp only [Value.slice.injEq] at e1
  obtain ⟨rfl, en, rfl⟩ := e1
  clear en
  rw [hps] at hc hn
  have gn : (nn : Int) ≤ 17592186044416 := by omega
  have gp : (np : Int) ≤ 17592186044416 := by omega
  clear hp hps hl hlex
  go_enter Tryd.func67, Tryd.ntmps67
  go_upto_region 1 with fail
  obtain ⟨W, hW⟩ : ∃ W, w.alloc (.cells #[.slice al nl cl, .slice an nn cn, .int .i64 st, .slice ap np cp] 26) = W := ⟨_, rfl⟩
  rw [hW] at HB HK ⊢
  clear hW
  obtain ⟨b, hb⟩ : ∃ b, w.heap.size = b := ⟨_, rfl⟩
  rw [hb] at HB ⊢
  clear hb
  obtain ⟨s0, s1, s2, s3⟩ := HB.out.facts
  by_cases h0 : st < 0
  · have HX : Hid (placesP lex nn st ps = (70, -1)) := by show _ = _; unfold placesP; rw [if_neg (by omega)]
    go_wp2_with fail
    go_ret2
    exact ⟨by rw [HX.out]; rfl, HK.out⟩
  · by_cases h1 : (nn : Int) ≤ st
    · have HX : Hid (placesP lex nn st ps = (70, -1)) := by show _ = _; unfold placesP; rw [if_neg (by omega)]
      go_wp2_with fail
      go_ret2
      exact ⟨by rw [HX.out]; rfl, HK.out⟩
    · have HX : Hid (placesP lex nn st ps = placesF lex nn 0 ps) := by show _ = _; unfold placesP; rw [if_pos (by omega)]
      go_wp2_with fail
      clear s0 s1 s2 s3 h0 h1
      go_loopw [4] (PlI lex nn ps (placesP lex nn st ps) W) (fun i _ => np - (intOf i).toNat)
      case atStart => exact ⟨0, rfl, Nat.zero_le _, HX, Kept.refl W⟩
      case round =>
        obtain ⟨j, rfl, hj, HJ, HKr⟩ := hrel
        rw [HPS.out] at hj
        obtain ⟨s0, s1, s2, s3⟩ := (HB.out.keep HKr.out).facts
        by_cases hlt : (j : Int) < (np : Int)
        · obtain ⟨p, hp⟩ : ∃ p, ps[j]? = some p := ⟨_, List.getElem?_eq_getElem (by have := HPS.out; omega)⟩
          have HKw := hide1 (gtrans HK.out HKr.out)
          obtain ⟨cb, o2, cs, ea, hcb, hlen, hcell, v', hcs, hrt⟩ := SliceOf.el (HP.out.keep HKw.out) hp
          subst ea hcs
          have k0 : wr.cell? ⟨cb, o2 + j * 2, none⟩ = some (.int .i64 p.1) := hcell 0 _ rfl
          have k1 := hcell 1 _ rfl
          have gjc : (j : Int) < (cp : Int) := by omega
          have HD : Hid (ps.drop j = p :: ps.drop (j + 1)) := by
            obtain ⟨hj2, e⟩ := List.getElem?_eq_some_iff.1 hp
            show _ = _
            rw [List.drop_eq_getElem_cons hj2, e]
          obtain ⟨ar, cr, rfl, hcr, hnr⟩ := hrt.len
          obtain ⟨nr, hnr2⟩ : ∃ nr, p.2.length = nr := ⟨_, rfl⟩
          rw [hnr2] at hrt hcr hnr k1
          have gnr : (nr : Int) ≤ 17592186044416 := by omega
          have HNR := hide1 hnr2
          have HRT := hide1 hrt
          obtain ⟨l, row⟩ := p
          dsimp only at k0 HNR HRT
          clear hp hcell hrt hnr2
          have HPB := hide1 (PBox.new wr (.int .i64 l) (.slice ar nr cr))
          have HK4 : Hid (Kept wr (wr.alloc (.cells #[.int .i64 l, .slice ar nr cr] 40))) := (Kept.refl wr).alloc _ _
          go_upto_region 7 with fail
          clear k0 k1 s0 s1 s2 s3
          obtain ⟨W4, hW4⟩ : ∃ W4, wr.alloc (.cells #[.int .i64 l, .slice ar nr cr] 40) = W4 := ⟨_, rfl⟩
          rw [hW4] at HPB HK4 ⊢
          clear hW4
          obtain ⟨pb, hpb⟩ : ∃ pb, wr.heap.size = pb := ⟨_, rfl⟩
          rw [hpb] at HPB ⊢
          clear hpb
          obtain ⟨p0, p1⟩ := HPB.out.cells
          have HK4w := hide1 (gtrans HKr.out HK4.out)
          have HB4 := hide1 (HB.out.keep HK4w.out)
          obtain ⟨s0, s1, s2, s3⟩ := HB4.out.facts
          by_cases h0 : l < 0
          · have HJ3 : Hid (placesP lex nn st ps = (70, (j : Int))) := by
              show _ = _
              rw [HJ.out, HD.out]
              show (if 0 ≤ l ∧ l < (nn : Int) then _ else _) = _
              rw [if_neg (by omega)]
            go_wp2_with fail
            go_ret2
            exact ⟨by rw [HJ3.out]; rfl, gtrans HK.out HK4w.out⟩
          · by_cases h1 : (nn : Int) ≤ l
            · have HJ3 : Hid (placesP lex nn st ps = (70, (j : Int))) := by
                show _ = _
                rw [HJ.out, HD.out]
                show (if 0 ≤ l ∧ l < (nn : Int) then _ else _) = _
                rw [if_neg (by omega)]
              go_wp2_with fail
              go_ret2
              exact ⟨by rw [HJ3.out]; rfl, gtrans HK.out HK4w.out⟩
            · have HJ2 : Hid (placesP lex nn st ps = if (wrongP lex nn row).2 = 0 then placesF lex nn (j + 1) (ps.drop (j + 1)) else ((wrongP lex nn row).2, (j : Int))) := by
                show _ = _
                rw [HJ.out, HD.out]
                show (if 0 ≤ l ∧ l < (nn : Int) then (if (wrongP lex nn row).2 = 0 then _ else ((wrongP lex nn row).2, _)) else _) = _
                rw [if_pos (by omega)]
              go_wp2_with fail
              clear s0 s1 s2 s3 p0 p1 h0 h1
              go_loopw [6] (DiJ lex nn row W4) (fun i _ => nr - (intOf i).toNat)
              case atStart => exact ⟨0, rfl, Nat.zero_le _, rfl, Kept.refl W4⟩
              case round =>
                obtain ⟨m, rfl, hm, HM, HKm⟩ := hrel
                rw [HNR.out] at hm
                obtain ⟨p0, p1⟩ := (HPB.out.keep HKm.out).cells
                have HKmw := hide1 (gtrans HK4.out HKm.out)
                by_cases hmt : (m : Int) < (nr : Int)
                · obtain ⟨x, hx⟩ : ∃ x, row[m]? = some x := ⟨_, List.getElem?_eq_getElem (by have := HNR.out; omega)⟩
                  obtain ⟨cr2, or2, cs2, ea2, hcb2, hlen2, hcell2, hcs2⟩ := SliceOf.el (HRT.out.keep HKmw.out) hx
                  have hcs2 : cs2 = [.int .i64 x.1, .int .i64 x.2] := hcs2
                  subst ea2 hcs2
                  have k0 : wr.cell? ⟨cr2, or2 + m * 2, none⟩ = some (.int .i64 x.1) := hcell2 0 _ rfl
                  have k1 := hcell2 1 _ rfl
                  have gmc : (m : Int) < (cr : Int) := by omega
                  have HDm : Hid (row.drop m = x :: row.drop (m + 1)) := by
                    obtain ⟨hj2, e⟩ := List.getElem?_eq_some_iff.1 hx
                    show _ = _
                    rw [List.drop_eq_getElem_cons hj2, e]
                  obtain ⟨kd, sn⟩ := x
                  obtain ⟨er, her⟩ : ∃ er, symErr lex nn (kd, sn) = er := ⟨_, rfl⟩
                  have HER := hide1 her
                  clear hx hcell2 her
                  obtain ⟨s0, s1, s2, s3⟩ := (HB4.out.keep HKm.out).facts
                  by_cases e0 : er = 0
                  · have b0 : (er != 0) = false := by simp [e0]
                    have HM2 : Hid ((wrongP lex nn row).2 = (wrongF lex nn (m + 1) (row.drop (m + 1))).2) := by
                      show _ = _
                      rw [HM.out, HDm.out]
                      show (if symErr lex nn (kd, sn) = 0 then _ else _ : Int × Int).2 = _
                      rw [if_pos (by rw [HER.out]; exact e0)]
                    clear e0
                    go_upto_region 12 with fail
                    have q0 := keeps s0
                    have q1 := keeps s1
                    have q2 := keeps s2
                    have q3 := keeps s3
                    have q4 := keeps p1
                    have q5 := keeps k0
                    have q6 := keeps k1
                    have hkr : Kept wr wr := Kept.refl wr
                    go_region_held3 (fun w' => Kept wr w') (first | assumption | exact Kept.refl _ | exact gtrans (by assumption) (by assumption))
                      ((go_at_call 35; refine (dSymbol_is k al an nl cl nn cn lex HLEN.out (by omega) _ st kd sn _ (HL.out.keep (gtrans (gtrans HKw.out HKmw.out) (by assumption)))).mono ?_; rintro e w8 ⟨rfl, hk8⟩; rw [HER.out]; have k8 : Kept wr w8 := gtrans (by assumption) hk8))
                    have HK8 := hide1 k8
                    clear q0 q1 q2 q3 q4 q5 q6 hkr hk8 k8
                    go_wp2_with fail
                    go_roundw
                    case rel => exact ⟨m + 1, by go_num, by rw [HNR.out]; omega, HM2, gtrans HKm.out HK8.out⟩
                    case measure => simp [intOf]; omega
                  · have b0 : (er != 0) = true := by simpa using e0
                    have HM2 : Hid ((wrongP lex nn row).2 = er) := by
                      show _ = _
                      rw [HM.out, HDm.out]
                      show (if symErr lex nn (kd, sn) = 0 then _ else _ : Int × Int).2 = _
                      rw [if_neg (by rw [HER.out]; exact e0)]
                      exact HER.out
                    have HJ3 : Hid (placesP lex nn st ps = (er, (j : Int))) := by show _ = _; rw [HJ2.out, HM2.out, if_neg e0]
                    clear e0
                    go_upto_region 12 with fail
                    have q0 := keeps s0
                    have q1 := keeps s1
                    have q2 := keeps s2
                    have q3 := keeps s3
                    have q4 := keeps p1
                    have q5 := keeps k0
                    have q6 := keeps k1
                    have hkr : Kept wr wr := Kept.refl wr
                    go_region_held3 (fun w' => Kept wr w') (first | assumption | exact Kept.refl _ | exact gtrans (by assumption) (by assumption))
                      ((go_at_call 35; refine (dSymbol_is k al an nl cl nn cn lex HLEN.out (by omega) _ st kd sn _ (HL.out.keep (gtrans (gtrans HKw.out HKmw.out) (by assumption)))).mono ?_; rintro e w8 ⟨rfl, hk8⟩; rw [HER.out]; have k8 : Kept wr w8 := gtrans (by assumption) hk8))
                    have HK8 := hide1 k8
                    clear q0 q1 q2 q3 q4 q5 q6 hkr hk8 k8
                    go_wp2_with fail
                    go_ret2
                    exact ⟨by rw [HJ3.out]; rfl, gtrans HKw.out (gtrans HKmw.out HK8.out)⟩
                · have HM2 : Hid ((wrongP lex nn row).2 = 0) := by
                    show _ = _
                    rw [HM.out, List.drop_of_length_le (by have := HNR.out; omega)]
                    rfl
                  have HJ3 : Hid (placesP lex nn st ps = placesF lex nn (j + 1) (ps.drop (j + 1))) := by show _ = _; rw [HJ2.out, if_pos HM2.out]
                  go_wp2_with fail
                  go_roundw
                  case rel => exact ⟨j + 1, by go_num, by rw [HPS.out]; omega, HJ3, gtrans HKr.out HKmw.out⟩
                  case measure => simp [intOf]; omega
        · have HJ3 : Hid (placesP lex nn st ps = (0, 0)) := by
            show _ = _
            rw [HJ.out, List.drop_of_length_le (by have := HPS.out; omega)]
            rfl
          go_wp2_with fail
          go_ret2
          exact ⟨by rw [HJ3.out]; rfl, gtrans HK.out HKr.out⟩

end Ex
end Go.Proofs.YtooelfjceehmmaaDoor
