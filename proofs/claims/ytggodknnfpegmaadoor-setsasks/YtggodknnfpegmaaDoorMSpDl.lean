import Derived.Test.YtggodknnfpegmaaDoorMSpCk
import Derived.Laws.MakeOwn
import Derived.Laws.CopyOwn
namespace Go.Proofs.YtggodknnfpegmaaDoor
open Go.RowKit
attribute [local go_sem] Oper.semAt_some
namespace Ex

def DlI (ps : List ProdM) (W : World) (vi : Value) (wr : World) : Prop := ∃ j : Nat, vi = .int .i64 (j : Int) ∧ j ≤ ps.length ∧ Hid ((ps.take j).any (fun p => decide (16 < p.2.length)) = false) ∧ Hid (wr = W)
set_option linter.unusedSimpArgs false in
set_option maxRecDepth 100000 in
set_option maxHeartbeats 4000000 in
/-- The document's bounds. -/
theorem dLong_is (ps : List ProdM) (al an ap : Option Addr) (nl cl nn cn np cp : Nat) (x2 : Value) (w : World) (hnl : nl ≤ 17592186044416) (hnn : nn ≤ 17592186044416) (hps : ps.length = np) (hp : ProdsAt w (.slice ap np cp) ps) :
    Calls Tryd.prog 42 #[.agg #[.slice al nl cl, .slice an nn cn, x2, .slice ap np cp]] w fun e w' => e = .returned (.bool (longB nl nn ps)) ∧ Kept w w' := by
  have HK : Hid (Kept w (w.alloc (.cells #[.slice al nl cl, .slice an nn cn, x2, .slice ap np cp] 26))) := (Kept.refl w).alloc _ _
  have HB := hide1 (SBox.new w (.slice al nl cl) (.slice an nn cn) x2 (.slice ap np cp))
  have HP := hide1 (hp.keep HK.out)
  have HPS := hide1 hps
  obtain ⟨_, _, e1, hcl, hn⟩ := hp.len
  simp only [Value.slice.injEq] at e1
  obtain ⟨rfl, en, rfl⟩ := e1
  clear en
  rw [hps] at hcl hn
  have gn : (nn : Int) ≤ 17592186044416 := by omega
  have gl : (nl : Int) ≤ 17592186044416 := by omega
  have gp : (np : Int) ≤ 17592186044416 := by omega
  clear hp hps
  go_enter Tryd.func42, Tryd.ntmps42
  go_upto_region 1 with fail
  obtain ⟨W, hW⟩ : ∃ W, w.alloc (.cells #[.slice al nl cl, .slice an nn cn, x2, .slice ap np cp] 26) = W := ⟨_, rfl⟩
  rw [hW] at HB HK HP ⊢
  clear hW
  obtain ⟨b, hb⟩ : ∃ b, w.heap.size = b := ⟨_, rfl⟩
  rw [hb] at HB ⊢
  clear hb
  obtain ⟨s0, s1, s2, s3⟩ := HB.out.facts
  by_cases h1 : (64 : Int) < (nl : Int)
  · have HLB : Hid (longB nl nn ps = true) := by unfold longB; show _ = _; simp; omega
    go_wp2_with fail
    go_ret
    exact ⟨by rw [HLB.out]; rfl, HK.out⟩
  · by_cases h2 : (128 : Int) < (nn : Int)
    · have HLB : Hid (longB nl nn ps = true) := by unfold longB; show _ = _; simp; omega
      go_wp2_with fail
      go_ret
      exact ⟨by rw [HLB.out]; rfl, HK.out⟩
    · by_cases h3 : (512 : Int) < (np : Int)
      · have HLB : Hid (longB nl nn ps = true) := by have := HPS.out; unfold longB; show _ = _; simp; omega
        go_wp2_with fail
        go_ret
        exact ⟨by rw [HLB.out]; rfl, HK.out⟩
      · have HLB : Hid (longB nl nn ps = ps.any (fun p => decide (16 < p.2.length))) := by
          have := HPS.out
          unfold longB
          show _ = _
          rw [show decide (64 < nl) = false by simp; omega, show decide (128 < nn) = false by simp; omega, show decide (512 < ps.length) = false by simp; omega]
          rfl
        go_wp2_with fail
        go_loopw [3] (DlI ps W) (fun i _ => np - (intOf i).toNat)
        case atStart => exact ⟨0, rfl, Nat.zero_le _, rfl, rfl⟩
        case round =>
          obtain ⟨j, rfl, hj, HA, HW⟩ := hrel
          have hW := HW.out.symm
          subst hW
          rw [HPS.out] at hj
          by_cases hlt : (j : Int) < (np : Int)
          · obtain ⟨p, hp⟩ : ∃ p, ps[j]? = some p := ⟨_, List.getElem?_eq_getElem (by have := HPS.out; omega)⟩
            obtain ⟨cb, o2, cs, ea, hcb, hlen, hcell, v', hcs, hrt⟩ := SliceOf.el HP.out hp
            subst ea hcs
            have k1 := hcell 1 _ rfl
            have gjc : (j : Int) < (cp : Int) := by omega
            obtain ⟨ar, cr, rfl, hcr, hnr⟩ := hrt.len
            have HA2 : Hid (∀ x, decide (16 < p.2.length) = x → (ps.take (j + 1)).any (fun p => decide (16 < p.2.length)) = x) := by
              intro x hx
              rw [List.take_add_one, hp, List.any_append, HA.out]
              simpa using hx
            obtain ⟨nr, hnr2⟩ : ∃ nr, p.2.length = nr := ⟨_, rfl⟩
            rw [hnr2] at HA2 k1 hcr hnr
            have gr : (nr : Int) ≤ 17592186044416 := by omega
            clear hp hcell hrt hnr2
            by_cases h16 : (16 : Int) < (nr : Int)
            · have HAT := hide1 (HA2.out true (by simp; omega))
              go_wp2_with fail
              go_ret
              refine ⟨?_, HK.out⟩
              have e : longB nl nn ps = true := by
                rw [HLB.out, ← List.take_append_drop (j + 1) ps, List.any_append, HAT.out]
                rfl
              rw [e]
              rfl
            · have HAT := hide1 (HA2.out false (by simp; omega))
              go_wp2_with fail
              go_roundw
              case rel => exact ⟨j + 1, by go_num, by rw [HPS.out]; omega, HAT, rfl⟩
              case measure => simp [intOf]; omega
          · have HAT : Hid (longB nl nn ps = false) := by
              show _ = _
              rw [HLB.out, ← HA.out, List.take_of_length_le (by have := HPS.out; omega)]
            go_wp2_with fail
            go_ret
            exact ⟨by rw [HAT.out]; rfl, HK.out⟩
set_option linter.unusedSimpArgs false in
set_option maxRecDepth 100000 in
set_option maxHeartbeats 4000000 in
/-- The document's error of a symbol: ours. -/
theorem dSymbol_is (k : Nat) (a b : Option Addr) (n c n2 c2 : Nat) (lex : List (LexM k)) (hlex : lex.length = n) (hn2 : n2 ≤ 17592186044416) (vp : Value) (st kd nn : Int) (w : World) (hl : LexAt w k (.slice a n c) lex) :
    Calls Tryd.prog 53 #[.agg #[.slice a n c, .slice b n2 c2, .int .i64 st, vp], .agg #[.int .i64 kd, .int .i64 nn]] w fun e w' => e = .returned (.int .i64 (symErr lex n2 (kd, nn))) ∧ Kept w w' := by
  have HK1 : Hid (Kept w (w.alloc (.cells #[.slice a n c, .slice b n2 c2, .int .i64 st, vp] 26))) := (Kept.refl w).alloc _ _
  have HB1 := hide1 (SBox.new w (.slice a n c) (.slice b n2 c2) (.int .i64 st) vp)
  have HK2 : Hid (Kept (w.alloc (.cells #[.slice a n c, .slice b n2 c2, .int .i64 st, vp] 26)) ((w.alloc (.cells #[.slice a n c, .slice b n2 c2, .int .i64 st, vp] 26)).alloc (.cells #[.int .i64 kd, .int .i64 nn] 68))) := (Kept.refl _).alloc _ _
  have HX := hide1 (XBox.new (w.alloc (.cells #[.slice a n c, .slice b n2 c2, .int .i64 st, vp] 26)) kd nn)
  rw [World.size_alloc] at HX
  obtain ⟨_, _, e1, hcl, hn⟩ := hl.len
  simp only [Value.slice.injEq] at e1
  obtain ⟨rfl, en, rfl⟩ := e1
  clear en
  rw [hlex] at hcl hn
  have gn : (n : Int) ≤ 17592186044416 := by omega
  have gn2 : (n2 : Int) ≤ 17592186044416 := by omega
  have HL := hide1 hl
  have HLEN := hide1 hlex
  clear hl hlex
  go_enter Tryd.func53, Tryd.ntmps53
  go_upto_region 1 with fail
  obtain ⟨W1, hW1⟩ : ∃ W1, w.alloc (.cells #[.slice a n c, .slice b n2 c2, .int .i64 st, vp] 26) = W1 := ⟨_, rfl⟩
  rw [hW1] at HK1 HB1 HK2 HX ⊢
  obtain ⟨W2, hW2⟩ : ∃ W2, W1.alloc (.cells #[.int .i64 kd, .int .i64 nn] 68) = W2 := ⟨_, rfl⟩
  rw [hW2] at HK2 HX ⊢
  clear hW1 hW2
  obtain ⟨g, hg⟩ : ∃ g, w.heap.size = g := ⟨_, rfl⟩
  rw [hg] at HB1 HX ⊢
  clear hg
  obtain ⟨s0, s1, s2, s3⟩ := (HB1.out.keep HK2.out).facts
  obtain ⟨t0, t1⟩ := HX.out.cells
  have HKW := hide1 (gtrans HK1.out HK2.out)
  by_cases h1 : kd = 1
  · subst h1
    by_cases h0 : nn < 0
    · have HE : Hid (symErr lex n2 (1, nn) = 70) := by
        show _ = _
        unfold symErr
        rw [if_neg (by simp only; omega), if_neg (by simp only; omega)]
      go_wp2_with fail
      go_ret
      exact ⟨by rw [HE.out]; rfl, HKW.out⟩
    · by_cases hg : (n : Int) ≤ nn
      · have HE : Hid (symErr lex n2 (1, nn) = 70) := by
          have := HLEN.out
          show _ = _
          unfold symErr
          rw [if_neg (by simp only; omega), if_neg (by simp only; omega)]
        go_wp2_with fail
        go_ret
        exact ⟨by rw [HE.out]; rfl, HKW.out⟩
      · obtain ⟨i, rfl⟩ : ∃ i : Nat, nn = (i : Int) := ⟨nn.toNat, by omega⟩
        obtain ⟨x, hx⟩ : ∃ x, lex[i]? = some x := ⟨_, List.getElem?_eq_getElem (by have := HLEN.out; omega)⟩
        obtain ⟨cb, o2, cs, ea, hcb, hlen, hcell, v', hcs, _⟩ := SliceOf.el (HL.out.keep HKW.out) hx
        subst ea hcs
        have k1 := hcell 1 _ rfl
        have gic : (i : Int) < (c : Int) := by omega
        have HE : Hid (symErr lex n2 (1, (i : Int)) = if x.2.1 = true then 71 else 0) := by
          have := HLEN.out
          show _ = _
          unfold symErr
          rw [if_pos ⟨rfl, (by show (0 : Int) ≤ (i : Int); omega), (by show (i : Int) < (lex.length : Int); omega)⟩]
          simp only [Int.toNat_natCast, hx, Option.map_some, Option.getD_some]
        obtain ⟨nm, tv, pt⟩ := x
        dsimp only at k1 HE
        clear hx hcell
        cases tv with
        | true =>
          go_wp2_with fail
          go_ret
          exact ⟨by rw [HE.out]; rfl, HKW.out⟩
        | false =>
          go_wp2_with fail
          go_ret
          exact ⟨by rw [HE.out]; rfl, HKW.out⟩
  · have b1 : (kd == 1) = false := by simpa using h1
    by_cases h2 : kd = 2
    · subst h2
      by_cases h0 : nn = 0
      · subst h0
        have HE : Hid (symErr lex n2 (2, 0) = 0) := by
          show _ = _
          unfold symErr
          rw [if_neg (by simp only; omega), if_pos (by simp)]
        go_wp2_with fail
        go_ret
        exact ⟨by rw [HE.out]; rfl, HKW.out⟩
      · have b0 : (nn != 0) = true := by simpa using h0
        have HE : Hid (symErr lex n2 (2, nn) = 70) := by
          show _ = _
          unfold symErr
          rw [if_neg (by simp only; omega), if_neg (by simp only; omega)]
        clear h0
        go_wp2_with fail
        go_ret
        exact ⟨by rw [HE.out]; rfl, HKW.out⟩
    · have b2 : (kd == 2) = false := by simpa using h2
      by_cases h3 : kd = 3
      · subst h3
        by_cases h0 : nn < 0
        · have HE : Hid (symErr lex n2 (3, nn) = 70) := by
            show _ = _
            unfold symErr
            rw [if_neg (by simp only; omega), if_neg (by simp only; omega)]
          go_wp2_with fail
          go_ret
          exact ⟨by rw [HE.out]; rfl, HKW.out⟩
        · by_cases hg : (n2 : Int) ≤ nn
          · have HE : Hid (symErr lex n2 (3, nn) = 70) := by
              show _ = _
              unfold symErr
              rw [if_neg (by simp only; omega), if_neg (by simp only; omega)]
            go_wp2_with fail
            go_ret
            exact ⟨by rw [HE.out]; rfl, HKW.out⟩
          · have HE : Hid (symErr lex n2 (3, nn) = 0) := by
              show _ = _
              unfold symErr
              rw [if_neg (by simp only; omega), if_pos (.inr ⟨rfl, (by show (0 : Int) ≤ nn; omega), (by show nn < (n2 : Int); omega)⟩)]
            go_wp2_with fail
            go_ret
            exact ⟨by rw [HE.out]; rfl, HKW.out⟩
      · have b3 : (kd == 3) = false := by simpa using h3
        have HE : Hid (symErr lex n2 (kd, nn) = 70) := by
          show _ = _
          unfold symErr
          rw [if_neg (by simp only; omega), if_neg (by simp only; omega)]
        clear h1 h2 h3
        go_wp2_with fail
        go_ret
        exact ⟨by rw [HE.out]; rfl, HKW.out⟩

end Ex
end Go.Proofs.YtggodknnfpegmaaDoor
namespace Go.Proofs.YtggodknnfpegmaaDoor
open Go.RowKit
attribute [local go_sem] Oper.semAt_some
namespace Ex

def DiJ {k : Nat} (lex : List (LexM k)) (n2 : Nat) (row : List SymM) (W : World) (vi : Value) (wr : World) : Prop := ∃ m : Nat, vi = .int .i64 (m : Int) ∧ m ≤ row.length ∧ Hid ((wrongP lex n2 row).2 = (wrongF lex n2 m (row.drop m)).2) ∧ Hid (Kept W wr)
set_option linter.unusedSimpArgs false in
set_option maxRecDepth 100000 in
set_option maxHeartbeats 8000000 in
theorem dIndices_is (k : Nat) (lex : List (LexM k)) (ps : List ProdM) (al an ap : Option Addr) (nl cl nn cn np cp : Nat) (st : Int) (w : World) (hnn : nn ≤ 17592186044416) (hlex : lex.length = nl) (hps : ps.length = np) (hl : LexAt w k (.slice al nl cl) lex) (hp : ProdsAt w (.slice ap np cp) ps) :
    Calls Tryd.prog 43 #[.agg #[.slice al nl cl, .slice an nn cn, .int .i64 st, .slice ap np cp]] w fun e w' => e = .returned (.tuple #[.int .i64 (placesP lex nn st ps).2, .int .i64 (placesP lex nn st ps).1]) ∧ Kept w w' := by
  have HK : Hid (Kept w (w.alloc (.cells #[.slice al nl cl, .slice an nn cn, .int .i64 st, .slice ap np cp] 26))) := (Kept.refl w).alloc _ _
  have HB := hide1 (SBox.new w (.slice al nl cl) (.slice an nn cn) (.int .i64 st) (.slice ap np cp))
  have HP := hide1 hp
  have HPS := hide1 hps
  have HL := hide1 hl
  have HLEN := hide1 hlex
  obtain ⟨_, _, e1, hc, hn⟩ := hp.len
  simp only [Value.slice.injEq] at e1
  obtain ⟨rfl, en, rfl⟩ := e1
  clear en
  rw [hps] at hc hn
  have gn : (nn : Int) ≤ 17592186044416 := by omega
  have gp : (np : Int) ≤ 17592186044416 := by omega
  clear hp hps hl hlex
  go_enter Tryd.func43, Tryd.ntmps43
  go_upto_region 1 with fail
  obtain ⟨W, hW⟩ : ∃ W, w.alloc (.cells #[.slice al nl cl, .slice an nn cn, .int .i64 st, .slice ap np cp] 26) = W := ⟨_, rfl⟩
  rw [hW] at HB HK ⊢
  clear hW
  obtain ⟨b, hb⟩ : ∃ b, w.heap.size = b := ⟨_, rfl⟩
  rw [hb] at HB ⊢
  clear hb
  obtain ⟨s0, s1, s2, s3⟩ := HB.out.facts
  by_cases h0 : st < 0
  · have HX : Hid (placesP lex nn st ps = (70, -1)) := by show _ = _; unfold placesP; rw [if_neg (by omega)]
    go_wp2_with fail
    go_ret2
    exact ⟨by rw [HX.out]; rfl, HK.out⟩
  · by_cases h1 : (nn : Int) ≤ st
    · have HX : Hid (placesP lex nn st ps = (70, -1)) := by show _ = _; unfold placesP; rw [if_neg (by omega)]
      go_wp2_with fail
      go_ret2
      exact ⟨by rw [HX.out]; rfl, HK.out⟩
    · have HX : Hid (placesP lex nn st ps = placesF lex nn 0 ps) := by show _ = _; unfold placesP; rw [if_pos (by omega)]
      go_wp2_with fail
      clear s0 s1 s2 s3 h0 h1
      go_loopw [4] (PlI lex nn ps (placesP lex nn st ps) W) (fun i _ => np - (intOf i).toNat)
      case atStart => exact ⟨0, rfl, Nat.zero_le _, HX, Kept.refl W⟩
      case round =>
        obtain ⟨j, rfl, hj, HJ, HKr⟩ := hrel
        rw [HPS.out] at hj
        obtain ⟨s0, s1, s2, s3⟩ := (HB.out.keep HKr.out).facts
        by_cases hlt : (j : Int) < (np : Int)
        · obtain ⟨p, hp⟩ : ∃ p, ps[j]? = some p := ⟨_, List.getElem?_eq_getElem (by have := HPS.out; omega)⟩
          have HKw := hide1 (gtrans HK.out HKr.out)
          obtain ⟨cb, o2, cs, ea, hcb, hlen, hcell, v', hcs, hrt⟩ := SliceOf.el (HP.out.keep HKw.out) hp
          subst ea hcs
          have k0 : wr.cell? ⟨cb, o2 + j * 2, none⟩ = some (.int .i64 p.1) := hcell 0 _ rfl
          have k1 := hcell 1 _ rfl
          have gjc : (j : Int) < (cp : Int) := by omega
          have HD : Hid (ps.drop j = p :: ps.drop (j + 1)) := by
            obtain ⟨hj2, e⟩ := List.getElem?_eq_some_iff.1 hp
            show _ = _
            rw [List.drop_eq_getElem_cons hj2, e]
          obtain ⟨ar, cr, rfl, hcr, hnr⟩ := hrt.len
          obtain ⟨nr, hnr2⟩ : ∃ nr, p.2.length = nr := ⟨_, rfl⟩
          rw [hnr2] at hrt hcr hnr k1
          have gnr : (nr : Int) ≤ 17592186044416 := by omega
          have HNR := hide1 hnr2
          have HRT := hide1 hrt
          obtain ⟨l, row⟩ := p
          dsimp only at k0 HNR HRT
          clear hp hcell hrt hnr2
          have HPB := hide1 (PBox.new wr (.int .i64 l) (.slice ar nr cr))
          have HK4 : Hid (Kept wr (wr.alloc (.cells #[.int .i64 l, .slice ar nr cr] 40))) := (Kept.refl wr).alloc _ _
          go_upto_region 7 with fail
          clear k0 k1 s0 s1 s2 s3
          obtain ⟨W4, hW4⟩ : ∃ W4, wr.alloc (.cells #[.int .i64 l, .slice ar nr cr] 40) = W4 := ⟨_, rfl⟩
          rw [hW4] at HPB HK4 ⊢
          clear hW4
          obtain ⟨pb, hpb⟩ : ∃ pb, wr.heap.size = pb := ⟨_, rfl⟩
          rw [hpb] at HPB ⊢
          clear hpb
          obtain ⟨p0, p1⟩ := HPB.out.cells
          have HK4w := hide1 (gtrans HKr.out HK4.out)
          have HB4 := hide1 (HB.out.keep HK4w.out)
          obtain ⟨s0, s1, s2, s3⟩ := HB4.out.facts
          by_cases h0 : l < 0
          · have HJ3 : Hid (placesP lex nn st ps = (70, (j : Int))) := by
              show _ = _
              rw [HJ.out, HD.out]
              show (if 0 ≤ l ∧ l < (nn : Int) then _ else _) = _
              rw [if_neg (by omega)]
            go_wp2_with fail
            go_ret2
            exact ⟨by rw [HJ3.out]; rfl, gtrans HK.out HK4w.out⟩
          · by_cases h1 : (nn : Int) ≤ l
            · have HJ3 : Hid (placesP lex nn st ps = (70, (j : Int))) := by
                show _ = _
                rw [HJ.out, HD.out]
                show (if 0 ≤ l ∧ l < (nn : Int) then _ else _) = _
                rw [if_neg (by omega)]
              go_wp2_with fail
              go_ret2
              exact ⟨by rw [HJ3.out]; rfl, gtrans HK.out HK4w.out⟩
            · have HJ2 : Hid (placesP lex nn st ps = if (wrongP lex nn row).2 = 0 then placesF lex nn (j + 1) (ps.drop (j + 1)) else ((wrongP lex nn row).2, (j : Int))) := by
                show _ = _
                rw [HJ.out, HD.out]
                show (if 0 ≤ l ∧ l < (nn : Int) then (if (wrongP lex nn row).2 = 0 then _ else ((wrongP lex nn row).2, _)) else _) = _
                rw [if_pos (by omega)]
              go_wp2_with fail
              clear s0 s1 s2 s3 p0 p1 h0 h1
              go_loopw [6] (DiJ lex nn row W4) (fun i _ => nr - (intOf i).toNat)
              case atStart => exact ⟨0, rfl, Nat.zero_le _, rfl, Kept.refl W4⟩
              case round =>
                obtain ⟨m, rfl, hm, HM, HKm⟩ := hrel
                rw [HNR.out] at hm
                obtain ⟨p0, p1⟩ := (HPB.out.keep HKm.out).cells
                have HKmw := hide1 (gtrans HK4.out HKm.out)
                by_cases hmt : (m : Int) < (nr : Int)
                · obtain ⟨x, hx⟩ : ∃ x, row[m]? = some x := ⟨_, List.getElem?_eq_getElem (by have := HNR.out; omega)⟩
                  obtain ⟨cr2, or2, cs2, ea2, hcb2, hlen2, hcell2, hcs2⟩ := SliceOf.el (HRT.out.keep HKmw.out) hx
                  have hcs2 : cs2 = [.int .i64 x.1, .int .i64 x.2] := hcs2
                  subst ea2 hcs2
                  have k0 : wr.cell? ⟨cr2, or2 + m * 2, none⟩ = some (.int .i64 x.1) := hcell2 0 _ rfl
                  have k1 := hcell2 1 _ rfl
                  have gmc : (m : Int) < (cr : Int) := by omega
                  have HDm : Hid (row.drop m = x :: row.drop (m + 1)) := by
                    obtain ⟨hj2, e⟩ := List.getElem?_eq_some_iff.1 hx
                    show _ = _
                    rw [List.drop_eq_getElem_cons hj2, e]
                  obtain ⟨kd, sn⟩ := x
                  obtain ⟨er, her⟩ : ∃ er, symErr lex nn (kd, sn) = er := ⟨_, rfl⟩
                  have HER := hide1 her
                  clear hx hcell2 her
                  obtain ⟨s0, s1, s2, s3⟩ := (HB4.out.keep HKm.out).facts
                  by_cases e0 : er = 0
                  · have b0 : (er != 0) = false := by simp [e0]
                    have HM2 : Hid ((wrongP lex nn row).2 = (wrongF lex nn (m + 1) (row.drop (m + 1))).2) := by
                      show _ = _
                      rw [HM.out, HDm.out]
                      show (if symErr lex nn (kd, sn) = 0 then _ else _ : Int × Int).2 = _
                      rw [if_pos (by rw [HER.out]; exact e0)]
                    clear e0
                    go_upto_region 12 with fail
                    have q0 := keeps s0
                    have q1 := keeps s1
                    have q2 := keeps s2
                    have q3 := keeps s3
                    have q4 := keeps p1
                    have q5 := keeps k0
                    have q6 := keeps k1
                    have hkr : Kept wr wr := Kept.refl wr
                    go_region_held3 (fun w' => Kept wr w') (first | assumption | exact Kept.refl _ | exact gtrans (by assumption) (by assumption))
                      ((go_at_call 53; refine (dSymbol_is k al an nl cl nn cn lex HLEN.out (by omega) _ st kd sn _ (HL.out.keep (gtrans (gtrans HKw.out HKmw.out) (by assumption)))).mono ?_; rintro e w8 ⟨rfl, hk8⟩; rw [HER.out]; have k8 : Kept wr w8 := gtrans (by assumption) hk8))
                    have HK8 := hide1 k8
                    clear q0 q1 q2 q3 q4 q5 q6 hkr hk8 k8
                    go_wp2_with fail
                    go_roundw
                    case rel => exact ⟨m + 1, by go_num, by rw [HNR.out]; omega, HM2, gtrans HKm.out HK8.out⟩
                    case measure => simp [intOf]; omega
                  · have b0 : (er != 0) = true := by simpa using e0
                    have HM2 : Hid ((wrongP lex nn row).2 = er) := by
                      show _ = _
                      rw [HM.out, HDm.out]
                      show (if symErr lex nn (kd, sn) = 0 then _ else _ : Int × Int).2 = _
                      rw [if_neg (by rw [HER.out]; exact e0)]
                      exact HER.out
                    have HJ3 : Hid (placesP lex nn st ps = (er, (j : Int))) := by show _ = _; rw [HJ2.out, HM2.out, if_neg e0]
                    clear e0
                    go_upto_region 12 with fail
                    have q0 := keeps s0
                    have q1 := keeps s1
                    have q2 := keeps s2
                    have q3 := keeps s3
                    have q4 := keeps p1
                    have q5 := keeps k0
                    have q6 := keeps k1
                    have hkr : Kept wr wr := Kept.refl wr
                    go_region_held3 (fun w' => Kept wr w') (first | assumption | exact Kept.refl _ | exact gtrans (by assumption) (by assumption))
                      ((go_at_call 53; refine (dSymbol_is k al an nl cl nn cn lex HLEN.out (by omega) _ st kd sn _ (HL.out.keep (gtrans (gtrans HKw.out HKmw.out) (by assumption)))).mono ?_; rintro e w8 ⟨rfl, hk8⟩; rw [HER.out]; have k8 : Kept wr w8 := gtrans (by assumption) hk8))
                    have HK8 := hide1 k8
                    clear q0 q1 q2 q3 q4 q5 q6 hkr hk8 k8
                    go_wp2_with fail
                    go_ret2
                    exact ⟨by rw [HJ3.out]; rfl, gtrans HKw.out (gtrans HKmw.out HK8.out)⟩
                · have HM2 : Hid ((wrongP lex nn row).2 = 0) := by
                    show _ = _
                    rw [HM.out, List.drop_of_length_le (by have := HNR.out; omega)]
                    rfl
                  have HJ3 : Hid (placesP lex nn st ps = placesF lex nn (j + 1) (ps.drop (j + 1))) := by show _ = _; rw [HJ2.out, if_pos HM2.out]
                  go_wp2_with fail
                  go_roundw
                  case rel => exact ⟨j + 1, by go_num, by rw [HPS.out]; omega, HJ3, gtrans HKr.out HKmw.out⟩
                  case measure => simp [intOf]; omega
        · have HJ3 : Hid (placesP lex nn st ps = (0, 0)) := by
            show _ = _
            rw [HJ.out, List.drop_of_length_le (by have := HPS.out; omega)]
            rfl
          go_wp2_with fail
          go_ret2
          exact ⟨by rw [HJ3.out]; rfl, gtrans HK.out HKr.out⟩

end Ex
end Go.Proofs.YtggodknnfpegmaaDoor
namespace Go.Proofs.YtggodknnfpegmaaDoor
open Go.RowKit
namespace Ex

/-- A table of bools as a set. -/
def bitsOf : List Bool → Nat
  | [] => 0
  | b :: l => (if b then 1 else 0) + 2 * bitsOf l
theorem bits_test : ∀ (l : List Bool) (n : Nat), (bitsOf l).testBit n = l.getD n false
  | [], n => by simp [bitsOf]
  | b :: l, 0 => by
    show ((if b then 1 else 0) + 2 * bitsOf l).testBit 0 = b
    rw [Nat.testBit_zero]
    cases b <;> simp <;> omega
  | b :: l, n + 1 => by
    show ((if b then 1 else 0) + 2 * bitsOf l).testBit (n + 1) = l.getD n false
    rw [Nat.testBit_succ, ← bits_test l n]
    congr 1
    cases b <;> simp <;> omega
theorem bits_lt : ∀ (l : List Bool), bitsOf l < 2 ^ l.length
  | [] => by simp [bitsOf]
  | b :: l => by
    have := bits_lt l
    show (if b then 1 else 0) + 2 * bitsOf l < 2 ^ (l.length + 1)
    rw [Nat.pow_succ]
    cases b <;> simp <;> omega
theorem bits_set {l : List Bool} {n : Nat} (hn : n < l.length) : bitsOf (l.set n true) = bitsOf l ||| 2 ^ n := by
  refine Nat.eq_of_testBit_eq (fun i => ?_)
  have key : ((bitsOf l ||| 2 ^ n).testBit i = true) ↔ (l.getD i false = true ∨ i = n) := by rw [testBit_with, bits_test]
  rw [bits_test, Bool.eq_iff_iff, key]
  by_cases e : i = n
  · subst e
    rw [List.getD_eq_getElem?_getD, List.getElem?_set_self hn]
    simp
  · rw [List.getD_eq_getElem?_getD, List.getElem?_set_ne (fun h => e h.symm), ← List.getD_eq_getElem?_getD]
    simp [e]
theorem bits_false (n : Nat) : bitsOf (List.replicate n false) = 0 := by
  induction n with
  | zero => rfl
  | succ n ih => rw [List.replicate_succ]; show (if false then 1 else 0) + 2 * bitsOf _ = 0; rw [ih]; rfl
/-- Where a step of the document has added nothing. -/
theorem MkStep.docDone {t : Bool} {ps : List ProdM} {A : Nat} (h : MkStep t ps A A ps.length) (hs : ∀ n, A.testBit n = true → Mk t ps n) (n : Nat) : A.testBit n = true ↔ Mk t ps n := mk_is hs h.done n

end Ex
end Go.Proofs.YtggodknnfpegmaaDoor
namespace Go.Proofs.YtggodknnfpegmaaDoor
open Go.RowKit
attribute [local go_sem] Oper.semAt_some
namespace Ex

/-- A table of bools, alone in its block. -/
def TabB (w : World) (g : Nat) (ms : List Bool) : Prop := w.heap[g]? = some (.cells (ms.map Value.bool).toArray 4 (0, 0))
theorem TabB.cell {w : World} {g i : Nat} {x : Bool} {ms : List Bool} (h : TabB w g ms) (hi : ms[i]? = some x) : w.cell? ⟨g, i, none⟩ = some (.bool x) := by
  unfold TabB at h
  simp [World.cell?, h, hi]
theorem TabB.free {w : World} {g : Nat} {ms : List Bool} (i : Nat) (h : TabB w g ms) : w.frozen? ⟨g, i, none⟩ = false := by
  unfold TabB at h
  simp [World.frozen?, h]
theorem TabB.lt {w : World} {g : Nat} {ms : List Bool} (h : TabB w g ms) : g < w.heap.size := (Array.getElem?_eq_some_iff.1 h).1
theorem TabB.keep {w w' : World} {g : Nat} {ms : List Bool} (h : TabB w g ms) (hk : Kept w w') : TabB w' g ms := (hk.2.2.2.2 g h.lt).trans h
theorem TabB.but {w w' : World} {g d : Nat} {ms : List Bool} (h : TabB w g ms) (hk : KeptBut d w w') (hd : g ≠ d) : TabB w' g ms := (hk.2.2.2.2 g h.lt hd).trans h
def DaI (t : Bool) (A : Nat) (row : List SymM) (W : World) (vi : Value) (wr : World) : Prop := ∃ j : Nat, vi = .int .i64 (j : Int) ∧ j ≤ row.length ∧ Hid ((row.take j).any (missB t A) = false) ∧ Hid (wr = W)
set_option linter.unusedSimpArgs false in
set_option maxRecDepth 100000 in
set_option maxHeartbeats 4000000 in
/-- The document's all: no name of the row is missing. -/
theorem dAll_is (g : Nat) (ms : List Bool) (nn cn : Nat) (ar : Option Addr) (nr cr : Nat) (row : List SymM) (lf : Int) (w : World) (hms : ms.length = nn) (hnn : nn ≤ 128) (hcn : nn ≤ cn) (hrow : row.length = nr) (hT : TabB w g ms) (hr : RightAt w (.slice ar nr cr) row) (hok : ∀ x ∈ row, x.1 = 3 → 0 ≤ x.2 ∧ x.2 < (nn : Int)) :
    Calls Tryd.prog 58 #[.agg #[.int .i64 lf, .slice ar nr cr], .slice (some ⟨g, 0, none⟩) nn cn] w fun e w' => e = .returned (.bool (!row.any (missB true (bitsOf ms)))) ∧ Kept w w' := by
  have HK : Hid (Kept w (w.alloc (.cells #[.int .i64 lf, .slice ar nr cr] 40))) := (Kept.refl w).alloc _ _
  have HPB := hide1 (PBox.new w (.int .i64 lf) (.slice ar nr cr))
  have HT := hide1 (hT.keep HK.out)
  have HR := hide1 (hr.keep HK.out)
  have HROW := hide1 hrow
  have HMS := hide1 hms
  have HOK := hide1 hok
  obtain ⟨_, _, e1, hc, hn⟩ := hr.len
  simp only [Value.slice.injEq] at e1
  obtain ⟨rfl, en, rfl⟩ := e1
  clear en
  rw [hrow] at hc hn
  have gn : (nr : Int) ≤ 17592186044416 := by omega
  have gnn : (nn : Int) ≤ 128 := by omega
  clear hT hr hrow hms hok
  go_enter Tryd.func58, Tryd.ntmps58
  go_upto_region 1 with fail
  obtain ⟨W, hW⟩ : ∃ W, w.alloc (.cells #[.int .i64 lf, .slice ar nr cr] 40) = W := ⟨_, rfl⟩
  rw [hW] at HK HPB HT HR ⊢
  clear hW
  obtain ⟨pb, hpb⟩ : ∃ pb, w.heap.size = pb := ⟨_, rfl⟩
  rw [hpb] at HPB ⊢
  clear hpb
  obtain ⟨p0, p1⟩ := HPB.out.cells
  go_wp2_with fail
  go_loopw [5] (DaI true (bitsOf ms) row W) (fun i _ => nr - (intOf i).toNat)
  case atStart => exact ⟨0, rfl, Nat.zero_le _, rfl, rfl⟩
  case round =>
    obtain ⟨j, rfl, hj, HA, HW⟩ := hrel
    have hW := HW.out.symm
    subst hW
    rw [HROW.out] at hj
    by_cases hlt : (j : Int) < (nr : Int)
    · obtain ⟨x, hx⟩ : ∃ x, row[j]? = some x := ⟨_, List.getElem?_eq_getElem (by have := HROW.out; omega)⟩
      obtain ⟨cb, ob, cs, ea, hcb, hlen, hcell, hcs⟩ := SliceOf.el HR.out hx
      have hcs : cs = [.int .i64 x.1, .int .i64 x.2] := hcs
      subst ea hcs
      have k0 : W.cell? ⟨cb, ob + j * 2, none⟩ = some (.int .i64 x.1) := hcell 0 _ rfl
      have k1 := hcell 1 _ rfl
      have gjc : (j : Int) < (cr : Int) := by omega
      have HOX := hide1 (HOK.out x (List.mem_of_getElem? hx))
      have HA2 : Hid (∀ y, missB true (bitsOf ms) x = y → (row.take (j + 1)).any (missB true (bitsOf ms)) = y) := by
        intro y hy
        rw [List.take_add_one, hx, List.any_append, HA.out]
        simpa using hy
      obtain ⟨kd, sn⟩ := x
      clear hx hcell
      by_cases h3 : kd = 3
      · subst h3
        obtain ⟨hn0, hn1⟩ := HOX.out rfl
        obtain ⟨p, rfl⟩ : ∃ p : Nat, sn = (p : Int) := ⟨sn.toNat, by simp only at hn0; omega⟩
        have hp2 : p < nn := by simp only at hn1; omega
        have gpn : (p : Int) < (nn : Int) := by omega
        have gpc : (p : Int) < (cn : Int) := by omega
        obtain ⟨y, hy⟩ : ∃ y, ms[p]? = some y := ⟨_, List.getElem?_eq_getElem (by have := HMS.out; omega)⟩
        have c0 := HT.out.cell hy
        have HAT := hide1 (HA2.out (!y) (by
          unfold missB
          rw [if_pos rfl]
          show (!(bitsOf ms).testBit p) = !y
          rw [bits_test, List.getD_eq_getElem?_getD, hy]
          rfl))
        clear hy hn0 hn1 hp2
        cases y with
        | true =>
          go_wp2_with fail
          go_roundw
          case rel => exact ⟨j + 1, by go_num, by rw [HROW.out]; omega, HAT, rfl⟩
          case measure => simp [intOf]; omega
        | false =>
          go_wp2_with fail
          go_ret
          refine ⟨?_, HK.out⟩
          have e : row.any (missB true (bitsOf ms)) = true := by
            rw [← List.take_append_drop (j + 1) row, List.any_append, HAT.out]
            rfl
          rw [e]
          rfl
      · have b3 : (kd == 3) = false := by simpa using h3
        have HAT := hide1 (HA2.out false (by unfold missB; rw [if_neg h3]; rfl))
        clear h3
        go_wp2_with fail
        go_roundw
        case rel => exact ⟨j + 1, by go_num, by rw [HROW.out]; omega, HAT, rfl⟩
        case measure => simp [intOf]; omega
    · have HAT : Hid (row.any (missB true (bitsOf ms)) = false) := by
        show _ = _
        rw [← HA.out, List.take_of_length_le (by have := HROW.out; omega)]
      go_wp2_with fail
      go_ret
      exact ⟨by rw [HAT.out]; rfl, HK.out⟩

end Ex
end Go.Proofs.YtggodknnfpegmaaDoor
namespace Go.Proofs.YtggodknnfpegmaaDoor
open Go.RowKit
attribute [local go_sem] Oper.semAt_some
namespace Ex

theorem MkStep.had {t : Bool} {ps : List ProdM} {old A j : Nat} (h : MkStep t ps old A j) {p : ProdM} (hp : ps[j]? = some p) (hl : A.testBit p.1.toNat = true) : MkStep t ps old A (j + 1) := by
  refine ⟨h.up, h.sound, fun i q hi hq hxq => ?_, h.bound⟩
  rcases Nat.lt_or_ge i j with hij | hij
  · exact h.closed i q hij hq hxq
  · have e : i = j := by omega
    subst e
    rw [hp] at hq
    injection hq with hq
    subst hq
    exact hl
theorem TabB.set {w : World} {g i : Nat} {ms : List Bool} (h : TabB w g ms) : TabB (w.setCell ⟨g, i, none⟩ (.bool true)) g (ms.set i true) := by
  unfold TabB at h ⊢
  have hl : g < w.heap.size := (Array.getElem?_eq_some_iff.1 h).1
  have he : w.heap[g] = Obj.cells (ms.map Value.bool).toArray 4 (0, 0) := by rw [Array.getElem?_eq_getElem hl] at h; exact Option.some.inj h
  simp [World.setCell, Array.getElem_modify, hl, he, List.map_set]
/-- The table in a block, read off the world. -/
def rdTab (g : Nat) (w : World) : Nat := match w.heap[g]? with | some (.cells cs _ _) => bitsOf (cs.toList.map fun v => match v with | .bool b => b | _ => false) | _ => 0
theorem TabB.rd {w : World} {g : Nat} {ms : List Bool} (h : TabB w g ms) : rdTab g w = bitsOf ms := by
  unfold TabB at h
  unfold rdTab
  rw [h]
  simp [List.map_map, Function.comp_def]
def flagN : Value → Nat
  | .bool true => 1
  | _ => 0
theorem tab_new (nn : Nat) (w : World) : TabB (w.alloc (.cells ((List.replicate nn false).map Value.bool).toArray 4)) w.heap.size (List.replicate nn false) := heap_alloc_new w _
theorem bool_infoS : (Tryd.prog.info? 4).map (fun i => (i.zero, i.size, i.bytes)) = some (some (.bool false), 1, 1) := by kernel_rfl
theorem run_tab (n : Nat) (hn : n ≤ 300000) (w : World) : (Instr.makeSlice 27 (.int .i64 (n : Int)) (.int .i64 (n : Int))).run Tryd.prog w = .ok (.slice (some ⟨w.heap.size, 0, none⟩) n n) (w.alloc (.cells ((List.replicate n false).map Value.bool).toArray 4)) := by
  obtain ⟨i0, hi, hz0, hz1, hz2⟩ := info_of bool_infoS
  rw [run_make (P := Tryd.prog) w 27 4 i0 _ Tryd.underlying27 hi hz0 .i64 .i64 n n (by omega) (Int.le_refl _) (by rw [hz2]; omega) (by omega)]
  rw [hz1]
  have e : madeCells (Value.bool false).cells ((n : Int).toNat * 1) = ((List.replicate n false).map Value.bool).toArray := by
    unfold madeCells
    apply Array.ext_getElem?
    intro i
    simp only [Int.toNat_natCast, Nat.mul_one, Array.getElem?_map, List.getElem?_toArray, List.getElem?_map, List.getElem?_replicate]
    by_cases h : i < n
    · simp [h, Value.cells, Nat.mod_one]
    · simp [h]
  rw [e]
  simp

end Ex
end Go.Proofs.YtggodknnfpegmaaDoor
