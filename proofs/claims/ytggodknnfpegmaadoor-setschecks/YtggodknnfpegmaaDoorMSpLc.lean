import Derived.Test.YtggodknnfpegmaaDoorMSpKp
import Derived.Test.YtggodknnfpegmaaDoorMSpDf
import Derived.Test.YtggodknnfpegmaaDoorMSpHh
import Derived.Test.YtggodknnfpegmaaDoorMSpQf
import Derived.Test.YtggodknnfpegmaaDoorMSpQy
import Derived.Test.YtggodknnfpegmaaDoorMSpHc
namespace Go.Proofs.YtggodknnfpegmaaDoor
open Go.RowKit
attribute [local go_sem] Oper.semAt_some
namespace Ex

theorem restQ_zero {k : Nat} {lex : List (LexM k)} {ps : List ProdM} {nn nl : Nat} {st : Int} : ∀ (m j : Nat) (x : Int × Int), restQ lex ps nn nl st m j x → x.1 = 0 → x = (0, 0)
  | 0, _, _, h, _ => h
  | m + 1, j, x, ⟨a, _, h⟩, hx => by
    rcases h with ⟨hn, rfl⟩ | ⟨_, h⟩
    · exact absurd hx hn
    · exact restQ_zero m (j + 1) x h hx
theorem checkQ_zero {k : Nat} {lex : List (LexM k)} {ps : List ProdM} {nn nl : Nat} {st : Int} {x : Int × Int} (h : CheckQ lex ps nn nl st x) (hx : x.1 = 0) : x = (0, 0) := restQ_zero 5 0 x h hx
section
variable {k : Nat} {lex : List (LexM k)} {ps : List ProdM} {nn nl : Nat} {st xe xa : Int} {e : Ending} {w w' : World}
/-- Where a check tells a fault, every call does. -/
theorem ask_fail {Ok : Value → World → Prop} (h : AskR lex ps nn nl st Ok w e w') (hq : CheckQ lex ps nn nl st (xe, xa)) (hx : xe ≠ 0) : e = .returned (.tuple #[.slice none 0 0, .agg #[.int .i64 xe, .int .i64 xa, .string ⟨#[]⟩]]) ∧ Kept w w' := by
  obtain ⟨y, hy, hk, h⟩ := h
  have := checkQ_one hy hq
  subst this
  rcases h with ⟨_, h⟩ | ⟨h, _⟩
  · exact ⟨h, hk⟩
  · exact absurd h hx
theorem asky_fail (h : AskY lex ps nn nl st w e w') (hq : CheckQ lex ps nn nl st (xe, xa)) (hx : xe ≠ 0) : e = .returned (.tuple #[.slice none 0 0, .agg #[.int .i64 xe, .int .i64 xa, .string ⟨#[]⟩]]) ∧ Kept w w' := by
  obtain ⟨y, hy, hk, h⟩ := h
  have := checkQ_one hy hq
  subst this
  rcases h with ⟨_, h⟩ | ⟨h, _⟩
  · exact ⟨h, hk⟩
  · exact absurd h hx
theorem heads_fail {row : List SymM} {next : List Int} (h : HeadsR lex ps nn nl st row next w e w') (hq : CheckQ lex ps nn nl st (xe, xa)) (hx : xe ≠ 0) : e = .returned (.tuple #[.slice none 0 0, .agg #[.int .i64 xe, .int .i64 xa, .string ⟨#[]⟩]]) ∧ Kept w w' := by
  obtain ⟨y, hy, hk, h⟩ := h
  have := checkQ_one hy hq
  subst this
  rcases h with ⟨_, h⟩ | ⟨h, _⟩
  · exact ⟨h, hk⟩
  · exact absurd h hx
end
set_option linter.unusedSimpArgs false in
set_option maxRecDepth 100000 in
set_option maxHeartbeats 4000000 in
theorem fault7_is (xe xa : Int) (hz : xe = 0 → xa = 0) (w : World) : Calls Tryd.prog 19 #[.int .i64 xa, .int .i64 xe] w fun e w' => e = .returned (.agg #[.int .i64 xe, .int .i64 xa, .string ⟨#[]⟩]) ∧ Kept w w' := by
  have HK : Hid (Kept w (w.alloc (.cells #[.int .i64 0, .int .i64 0, .string ⟨#[]⟩] 44))) := (Kept.refl w).alloc _ _
  have HF := hide1 (FlBox.new w)
  go_enter Tryd.func19, Tryd.ntmps19
  go_upto_region 1 with fail
  obtain ⟨W, hW⟩ : ∃ W, w.alloc (.cells #[.int .i64 0, .int .i64 0, .string ⟨#[]⟩] 44) = W := ⟨_, rfl⟩
  rw [hW] at HK HF ⊢
  clear hW
  obtain ⟨b, hb⟩ : ∃ b, w.heap.size = b := ⟨_, rfl⟩
  rw [hb] at HF ⊢
  have HSB := hide1 hb
  clear hb
  obtain ⟨⟨f0, f1, f2⟩, z0, z1, z2⟩ := HF.out.cells
  by_cases hx : xe = 0
  · obtain rfl := hx
    obtain rfl := hz rfl
    clear hz
    go_wp2_with fail
    refine bodyPost_ret (results_cell_row rfl _ _ b 44 _ (0, 0) _ rfl (HF.out.fill 0 0) Tryd.underlying44 rfl (fault_size _ _)) rfl ?_
    exact ⟨rfl, keepB (keepB (keepB HK.out (by rw [HSB.out]; omega)) (by rw [HSB.out]; omega)) (by rw [HSB.out]; omega)⟩
  · have b0 : (xe == 0) = false := by simpa using hx
    clear hx hz
    go_wp2_with fail
    refine bodyPost_ret (results_cell_row rfl _ _ b 44 _ (0, 0) _ rfl (HF.out.fill xe xa) Tryd.underlying44 rfl (fault_size _ _)) rfl ?_
    exact ⟨rfl, keepB (keepB (keepB HK.out (by rw [HSB.out]; omega)) (by rw [HSB.out]; omega)) (by rw [HSB.out]; omega)⟩
/-- The law's loop. -/
def LcI (n : Nat) (W : World) (vi : Value) (wr : World) : Prop := ∃ j : Nat, vi = .int .i64 (j : Int) ∧ j ≤ n ∧ Hid (Kept W wr)
theorem lex_sizes {k : Nat} {w : World} {v : Value} {lex : List (LexM k)} (h : LexAt w k v lex) : ∀ l ∈ lex, l.1.size ≤ 200000000000000 := by
  obtain ⟨a, cap, h1, h2, h3, h4⟩ := h
  intro l hl
  rcases h4 with h4 | ⟨c, o, h5, h6, h7⟩
  · subst h4; cases hl
  · obtain ⟨i, hi⟩ := List.getElem?_of_mem hl
    obtain ⟨cs, g1, g2, v2, g3, g4, g5⟩ := h7 i l hi
    exact g4
theorem fl_new (w : World) (xe xa : Int) : FlBox (w.alloc (.cells #[.int .i64 xe, .int .i64 xa, .string ⟨#[]⟩] 44)) w.heap.size xe xa ∧ Kept w (w.alloc (.cells #[.int .i64 xe, .int .i64 xa, .string ⟨#[]⟩] 44)) := ⟨heap_alloc_new w _, (Kept.refl w).alloc _ _⟩

end Ex
end Go.Proofs.YtggodknnfpegmaaDoor
namespace Go.Proofs.YtggodknnfpegmaaDoor
open Go.RowKit
attribute [local go_sem] Oper.semAt_some
namespace Ex

set_option linter.unusedSimpArgs false in
set_option maxRecDepth 100000 in
set_option maxHeartbeats 16000000 in
theorem lawChecks (k : Nat) (specs : List (SpecM k)) (a : Option Addr) (n c : Nat) (w : World) (hn0 : specs.length = n) (hs : SliceOf w 4 (SpecSz w k) (.slice a n c) specs) (hT : TabAt w) :
    Calls Tryd.prog 4 #[.slice a n c] w fun e w' => e = .returned (.bool true) ∧ Kept w w' := by
  have HT := hide1 hT
  have HS := hide1 hs
  have HSN := hide1 hn0
  obtain ⟨_, _, e0, hc, hn44⟩ := SliceOf.len hs
  simp only [Value.slice.injEq] at e0
  obtain ⟨rfl, en, rfl⟩ := e0
  clear en
  rw [hn0] at hc hn44
  have gn44 : (n : Int) ≤ 17592186044416 := by omega
  clear hT hs hn0 hn44
  go_enter Tryd.func4, Tryd.ntmps4
  go_wp2_with fail
  go_loopw [3] (LcI n w) (fun i _ => n - (intOf i).toNat)
  case atStart => exact ⟨0, rfl, Nat.zero_le _, Kept.refl w⟩
  case round =>
    obtain ⟨j, rfl, hj, HKr⟩ := hrel
    by_cases hlt : (j : Int) < (n : Int)
    · obtain ⟨sp, hsp⟩ : ∃ sp, specs[j]? = some sp := ⟨_, List.getElem?_eq_getElem (by have := HSN.out; omega)⟩
      obtain ⟨cb, o2, cs, ea, hcb, hlen, hcell, ⟨vl, vn, vp, hcs, hl, hn, hp⟩, hz⟩ := SliceOf.el HS.out hsp
      subst ea hcs
      obtain ⟨lex, names, st, ps⟩ := sp
      have HK0 := HKr
      have c0 : wr.cell? ⟨cb, o2 + j * 4, none⟩ = some vl := grown_cell HKr.out (hcell 0 _ rfl)
      have c1 : wr.cell? ⟨cb, o2 + j * 4 + 1, none⟩ = some vn := grown_cell HKr.out (hcell 1 _ rfl)
      have c2 : wr.cell? ⟨cb, o2 + j * 4 + 2, none⟩ = some (.int .i64 st) := grown_cell HKr.out (hcell 2 _ rfl)
      have c3 : wr.cell? ⟨cb, o2 + j * 4 + 3, none⟩ = some vp := grown_cell HKr.out (hcell 3 _ rfl)
      have hzz : lex.length * 88 ≤ 140737488351232 ∧ names.length * 16 ≤ 140737488351232 ∧ ps.length * 32 ≤ 140737488351232 ∧ ∀ p ∈ ps, p.2.length * 16 ≤ 140737488351232 := hz
      have HLS : Hid (∀ l ∈ lex, l.1.size ≤ 200000000000000) := lex_sizes hl
      obtain ⟨al, cl, rfl, _⟩ := SliceOf.len hl
      obtain ⟨an, cn, rfl, _⟩ := SliceOf.len hn
      obtain ⟨ap, cp, rfl, _⟩ := SliceOf.len hp
      obtain ⟨nl, hnl⟩ : ∃ nl, lex.length = nl := ⟨_, rfl⟩
      obtain ⟨nn, hnn⟩ : ∃ nn, names.length = nn := ⟨_, rfl⟩
      obtain ⟨np, hnp⟩ : ∃ np, ps.length = np := ⟨_, rfl⟩
      rw [hnl, hnn, hnp] at hzz
      have HL : Hid (LexAt w k (.slice al nl cl) lex) := by rw [← hnl]; exact hl
      have HN : Hid (NamesAt w (.slice an nn cn) names) := by rw [← hnn]; exact hn
      have HP : Hid (ProdsAt w (.slice ap np cp) ps) := by rw [← hnp]; exact hp
      have HLEN := hide1 hnl
      have HNAM := hide1 hnn
      have HPS := hide1 hnp
      have HZZ := hide1 hzz
      have HROW : Hid (∀ p ∈ ps, p.2.length ≤ 8796093022207) := fun p hp => by have := hzz.2.2.2 p hp; omega
      have hz1 : nl ≤ 1600000000000 := by omega
      have hz2 : nn ≤ 8796093022207 := by omega
      have hz3 : np ≤ 4398046511103 := by omega
      have gjc : (j : Int) < (c : Int) := by omega
      simp only [hnl] at c0
      simp only [hnn] at c1
      simp only [hnp] at c3
      clear hsp hcell hz hzz hl hn hp hnl hnn hnp
      have HC0 := hide1 c0
      go_upto_region 5 with (go_at_call 16; refine (lend_is k lex names ps al an ap nl cl nn cn np cp st wr HLEN.out HNAM.out HPS.out HZZ.out (HL.out.keep HKr.out) (HN.out.keep HKr.out) (HP.out.keep HKr.out)).mono ?_; rintro e w1 ⟨g, gn, gq, rfl, hlt1, hk1⟩; have HLT1 := hide1 hlt1; have HK1 := hide1 hk1; clear hlt1 hk1)
      have HSB1 := hide1 (SBox.new w1 (.slice (some ⟨g, 0, none⟩) nl (nl + 1)) (.slice (some ⟨gn, 0, none⟩) nn (nn + 1)) (.int .i64 st) (.slice (some ⟨gq, 0, none⟩) np (np + 1)))
      have HA1 : Hid (Kept w1 (w1.alloc (.cells #[.slice (some ⟨g, 0, none⟩) nl (nl + 1), .slice (some ⟨gn, 0, none⟩) nn (nn + 1), .int .i64 st, .slice (some ⟨gq, 0, none⟩) np (np + 1)] 26))) := (Kept.refl w1).alloc _ _
      obtain ⟨W1, hW1⟩ : ∃ W1, w1.alloc (.cells #[.slice (some ⟨g, 0, none⟩) nl (nl + 1), .slice (some ⟨gn, 0, none⟩) nn (nn + 1), .int .i64 st, .slice (some ⟨gq, 0, none⟩) np (np + 1)] 26) = W1 := ⟨_, rfl⟩
      rw [hW1] at HSB1 HA1 ⊢
      clear hW1
      obtain ⟨sb, hsb⟩ : ∃ sb, w1.heap.size = sb := ⟨_, rfl⟩
      rw [hsb] at HSB1 ⊢
      clear hsb
      have HK1w := hide1 (gtrans HK1.out HA1.out)
      have d0 := grown_cell HK1w.out c0
      have d1 := grown_cell HK1w.out c1
      have d2 := grown_cell HK1w.out c2
      have d3 := grown_cell HK1w.out c3
      go_upto_region 6 with (go_at_call 18; refine (dCheck_is k lex ps al an ap nl cl nn cn np cp st W1 (by omega) HLEN.out HPS.out (HL.out.keep (gtrans HK0.out HK1w.out)) (HP.out.keep (gtrans HK0.out HK1w.out))).mono ?_; rintro e w2 ⟨⟨xe, xa⟩, rfl, hq2, hk2⟩; have HQ := hide1 hq2; have HK2 := hide1 hk2; clear hq2 hk2)
      clear d0 d1 d2 d3
      have HXZ : Hid (xe = 0 → xa = 0) := fun h => by have := checkQ_zero HQ.out h; simpa using congrArg Prod.snd this
      go_upto_region 7 with (go_at_call 19; refine (fault7_is xe xa HXZ.out _).mono ?_; rintro e w3 ⟨rfl, hk3⟩; have HK3a := hide1 hk3; clear hk3)
      obtain ⟨hfw, hkw⟩ := fl_new w3 xe xa
      have HFw := hide1 hfw
      have HAw := hide1 hkw
      clear hfw hkw
      obtain ⟨W3, hW3⟩ : ∃ W3, w3.alloc (.cells #[.int .i64 xe, .int .i64 xa, .string ⟨#[]⟩] 44) = W3 := ⟨_, rfl⟩
      rw [hW3] at HFw HAw ⊢
      clear hW3
      obtain ⟨bw, hbw⟩ : ∃ bw, w3.heap.size = bw := ⟨_, rfl⟩
      rw [hbw] at HFw ⊢
      clear hbw
      have HK3 : Hid (Kept wr W3) := gtrans HK1w.out (gtrans HK2.out (gtrans HK3a.out HAw.out))
      have HSB := hide1 (HSB1.out.keep (gtrans HK2.out (gtrans HK3a.out HAw.out)))
      have HLT := hide1 (HLT1.out.keep (gtrans HA1.out (gtrans HK2.out (gtrans HK3a.out HAw.out))))
      clear HK1w HK2 HK3a HAw HA1 HSB1 HLT1 HK1
      have HLX : Hid (∀ w', Kept W3 w' → LexAt w' k (.slice (some ⟨g, 0, none⟩) nl (nl + 1)) lex) := fun w' hk' => (HLT.out.keep hk').lexAt HLEN.out (by omega) HLS.out
      have HPX : Hid (∀ w', Kept W3 w' → ProdsAt w' (.slice (some ⟨gq, 0, none⟩) np (np + 1)) ps) := fun w' hk' => (HLT.out.keep hk').prodsAt HPS.out (by omega) (fun p hp => by have := HROW.out p hp; omega)
      have HTX : Hid (∀ w', Kept W3 w' → TabAt w') := fun w' hk' => HT.out.keep (gtrans HK0.out (gtrans HK3.out hk'))
      have HCK : Hid (∀ w', Kept W3 w' → Calls Tryd.prog 17 #[.agg #[.slice (some ⟨g, 0, none⟩) nl (nl + 1), .slice (some ⟨gn, 0, none⟩) nn (nn + 1), .int .i64 st, .slice (some ⟨gq, 0, none⟩) np (np + 1)]] w' fun e w2 => e = .returned (.agg #[.int .i64 xe, .int .i64 xa, .string ⟨#[]⟩]) ∧ Kept w' w2) := fun w' hk' => (sCheckTop_is k lex ps (some ⟨g, 0, none⟩) (some ⟨gn, 0, none⟩) (some ⟨gq, 0, none⟩) nl (nl + 1) nn (nn + 1) np (np + 1) st w' (by omega) HLEN.out HPS.out (HLX.out w' hk') (HPX.out w' hk')).mono (fun e w2 ⟨y, h1, h2, h3⟩ => by have := checkQ_one h2 HQ.out; subst this; exact ⟨h1, h3⟩)
      obtain ⟨s0, s1, s2, s3⟩ := HSB.out.facts
      obtain ⟨⟨f0, f1, f2⟩, _⟩ := HFw.out.cells
      have n0 := kcellS s0
      have n1 := kcellS s1
      have n2 := kcellS s2
      have n3 := kcellS s3
      have p0 := kcellS f0
      have p1 := kcellS f1
      have p2 := kcellS f2
      have hkr : Kept W3 W3 := Kept.refl W3
      clear s0 s1 s2 s3 f0 f1 f2
      go_region_held3 (fun w' => Kept W3 w') (first | assumption | exact Kept.refl _ | exact drew_kept _)
        ((go_at_call 17; refine (HCK.out _ (by first | assumption | exact drew_kept _ | exact Kept.refl _)).mono ?_; rintro e w4 ⟨rfl, hw4⟩; have k4 : Kept W3 w4 := gtrans (by first | assumption | exact drew_kept _ | exact Kept.refl _) hw4; clear hw4))
      have HK4 := hide1 k4
      clear n0 n1 n2 n3 p0 p1 p2 hkr k4 HCK
      by_cases hx0 : xe = 0
      · have b0 : (xe != 0) = false := by simp [hx0]
        clear hx0
        have HKT := hide1 (gtrans HK3.out HK4.out)
        obtain ⟨s0, s1, s2, s3⟩ := (HSB.out.keep HK4.out).facts
        have n0 := kcellS s0
        have n1 := kcellS s1
        have n2 := kcellS s2
        have n3 := kcellS s3
        have m0 := kcellS (grown_cell HKT.out c0)
        have m1 := kcellS (grown_cell HKT.out c1)
        have m2 := kcellS (grown_cell HKT.out c2)
        have m3 := kcellS (grown_cell HKT.out c3)
        have HKP : Hid (∀ w', Kept w4 w' → Calls Tryd.prog 24 #[.agg #[.slice (some ⟨g, 0, none⟩) nl (nl + 1), .slice (some ⟨gn, 0, none⟩) nn (nn + 1), .int .i64 st, .slice (some ⟨gq, 0, none⟩) np (np + 1)], .agg #[.slice al nl cl, .slice an nn cn, .int .i64 st, .slice ap np cp]] w' fun e w2 => e = .returned (.bool true) ∧ Kept w' w2) := fun w' hk' => keptS_is k lex names ps g gn gq al an ap nl cl nn cn np cp st w' HLEN.out HNAM.out HPS.out hz1 hz2 hz3 HROW.out (HLT.out.keep (gtrans HK4.out hk')) (HL.out.keep (gtrans HK0.out (gtrans HKT.out hk'))) (HN.out.keep (gtrans HK0.out (gtrans HKT.out hk'))) (HP.out.keep (gtrans HK0.out (gtrans HKT.out hk')))
        have hkr : Kept w4 w4 := Kept.refl w4
        go_upto_region 17 with fail
        clear s0 s1 s2 s3 c0 c1 c2 c3
        go_region_held3 (fun w' => Kept w4 w') (first | assumption | exact Kept.refl _ | exact drew_kept _)
          ((go_at_call 24; refine (HKP.out _ (by first | assumption | exact drew_kept _ | exact Kept.refl _)).mono ?_; rintro e w9 ⟨rfl, hw9⟩; have k9 : Kept w4 w9 := gtrans (by first | assumption | exact drew_kept _ | exact Kept.refl _) hw9; clear hw9))
        have HK9 := hide1 (gtrans HKr.out (gtrans HKT.out k9))
        clear n0 n1 n2 n3 m0 m1 m2 m3 hkr k9 HKP
        go_wp2_with fail
        go_roundw
        case rel => exact ⟨j + 1, by go_num, by omega, HK9⟩
        case measure => simp [intOf]; omega
      · have b0 : (xe != 0) = true := by simpa using hx0
        have HXE := hide1 hx0
        clear hx0
        obtain ⟨s0, s1, s2, s3⟩ := (HSB.out.keep HK4.out).facts
        go_upto_region 11 with (go_at_call 20; refine (sNull_is k lex ps (some ⟨g, 0, none⟩) (some ⟨gn, 0, none⟩) (some ⟨gq, 0, none⟩) nl (nl + 1) nn (nn + 1) np (np + 1) st _ (by omega) HLEN.out HPS.out (HLX.out _ HK4.out) (HPX.out _ HK4.out) (HTX.out _ HK4.out)).mono ?_; rintro e vb hvb; obtain ⟨rfl, hkvb⟩ := ask_fail hvb HQ.out HXE.out; have HEvb := hide1 hkvb; have HKvb := hide1 (gtrans HK4.out hkvb); clear hvb hkvb)
        clear s0 s1 s2 s3
        obtain ⟨hfb, hkb⟩ := fl_new vb xe xa
        have HFb := hide1 hfb
        have HAb := hide1 hkb
        clear hfb hkb
        obtain ⟨Vb, hVb⟩ : ∃ Vb, vb.alloc (.cells #[.int .i64 xe, .int .i64 xa, .string ⟨#[]⟩] 44) = Vb := ⟨_, rfl⟩
        rw [hVb] at HFb HAb ⊢
        clear hVb
        obtain ⟨bb, hbb⟩ : ∃ bb, vb.heap.size = bb := ⟨_, rfl⟩
        rw [hbb] at HFb ⊢
        clear hbb
        have HKb := hide1 (gtrans HKvb.out HAb.out)
        have HDb := hide1 (gtrans HEvb.out HAb.out)
        clear HAb HEvb HKvb
        obtain ⟨s0, s1, s2, s3⟩ := (HSB.out.keep HKb.out).facts
        go_upto_region 12 with (go_at_call 21; refine (sFirst_is k lex ps (some ⟨g, 0, none⟩) (some ⟨gn, 0, none⟩) (some ⟨gq, 0, none⟩) nl (nl + 1) nn (nn + 1) np (np + 1) st _ (by omega) HLEN.out HPS.out (HLX.out _ HKb.out) (HPX.out _ HKb.out) (HTX.out _ HKb.out)).mono ?_; rintro e vc hvc; obtain ⟨rfl, hkvc⟩ := ask_fail hvc HQ.out HXE.out; have HEvc := hide1 hkvc; have HKvc := hide1 (gtrans HKb.out hkvc); clear hvc hkvc)
        clear s0 s1 s2 s3
        obtain ⟨hfc, hkc⟩ := fl_new vc xe xa
        have HFc := hide1 hfc
        have HAc := hide1 hkc
        clear hfc hkc
        obtain ⟨Vc, hVc⟩ : ∃ Vc, vc.alloc (.cells #[.int .i64 xe, .int .i64 xa, .string ⟨#[]⟩] 44) = Vc := ⟨_, rfl⟩
        rw [hVc] at HFc HAc ⊢
        clear hVc
        obtain ⟨bc, hbc⟩ : ∃ bc, vc.heap.size = bc := ⟨_, rfl⟩
        rw [hbc] at HFc ⊢
        clear hbc
        have HKc := hide1 (gtrans HKvc.out HAc.out)
        have HDc := hide1 (gtrans HEvc.out HAc.out)
        clear HAc HEvc HKvc
        obtain ⟨s0, s1, s2, s3⟩ := (HSB.out.keep HKc.out).facts
        go_upto_region 13 with (go_at_call 22; refine (sFollow_is k lex ps (some ⟨g, 0, none⟩) (some ⟨gn, 0, none⟩) (some ⟨gq, 0, none⟩) nl (nl + 1) nn (nn + 1) np (np + 1) st _ (by omega) HLEN.out HPS.out (HLX.out _ HKc.out) (HPX.out _ HKc.out) (HTX.out _ HKc.out)).mono ?_; rintro e vd hvd; obtain ⟨rfl, hkvd⟩ := ask_fail hvd HQ.out HXE.out; have HEvd := hide1 hkvd; have HKvd := hide1 (gtrans HKc.out hkvd); clear hvd hkvd)
        clear s0 s1 s2 s3
        obtain ⟨hfd, hkd⟩ := fl_new vd xe xa
        have HFd := hide1 hfd
        have HAd := hide1 hkd
        clear hfd hkd
        obtain ⟨Vd, hVd⟩ : ∃ Vd, vd.alloc (.cells #[.int .i64 xe, .int .i64 xa, .string ⟨#[]⟩] 44) = Vd := ⟨_, rfl⟩
        rw [hVd] at HFd HAd ⊢
        clear hVd
        obtain ⟨bd, hbd⟩ : ∃ bd, vd.heap.size = bd := ⟨_, rfl⟩
        rw [hbd] at HFd ⊢
        clear hbd
        have HKd := hide1 (gtrans HKvd.out HAd.out)
        have HDd := hide1 (gtrans HEvd.out HAd.out)
        clear HAd HEvd HKvd
        obtain ⟨s0, s1, s2, s3⟩ := (HSB.out.keep HKd.out).facts
        go_upto_region 14 with (go_at_call 11; refine (sHeads_is k lex ps (some ⟨g, 0, none⟩) (some ⟨gn, 0, none⟩) (some ⟨gq, 0, none⟩) none none nl (nl + 1) nn (nn + 1) np (np + 1) 0 0 0 0 st [] [] _ (by omega) HLEN.out HPS.out rfl rfl (HLX.out _ HKd.out) (HPX.out _ HKd.out) ⟨none, 0, rfl, Nat.le_refl _, Nat.zero_le _, .inl rfl⟩ ⟨none, 0, rfl, Nat.le_refl _, Nat.zero_le _, .inl rfl⟩ (HTX.out _ HKd.out)).mono ?_; rintro e ve hve; obtain ⟨rfl, hkve⟩ := heads_fail hve HQ.out HXE.out; have HEve := hide1 hkve; have HKve := hide1 (gtrans HKd.out hkve); clear hve hkve)
        clear s0 s1 s2 s3
        obtain ⟨hfe, hke⟩ := fl_new ve xe xa
        have HFe := hide1 hfe
        have HAe := hide1 hke
        clear hfe hke
        obtain ⟨Ve, hVe⟩ : ∃ Ve, ve.alloc (.cells #[.int .i64 xe, .int .i64 xa, .string ⟨#[]⟩] 44) = Ve := ⟨_, rfl⟩
        rw [hVe] at HFe HAe ⊢
        clear hVe
        obtain ⟨be, hbe⟩ : ∃ be, ve.heap.size = be := ⟨_, rfl⟩
        rw [hbe] at HFe ⊢
        clear hbe
        have HKe := hide1 (gtrans HKve.out HAe.out)
        have HDe := hide1 (gtrans HEve.out HAe.out)
        clear HAe HEve HKve
        obtain ⟨s0, s1, s2, s3⟩ := (HSB.out.keep HKe.out).facts
        go_upto_region 15 with (go_at_call 23; refine (sYields_is k lex ps (some ⟨g, 0, none⟩) (some ⟨gn, 0, none⟩) (some ⟨gq, 0, none⟩) nl (nl + 1) nn (nn + 1) np (np + 1) st _ (by omega) HLEN.out HPS.out (HLX.out _ HKe.out) (HPX.out _ HKe.out) (HTX.out _ HKe.out)).mono ?_; rintro e vf hvf; obtain ⟨rfl, hkvf⟩ := asky_fail hvf HQ.out HXE.out; have HEvf := hide1 hkvf; have HKvf := hide1 (gtrans HKe.out hkvf); clear hvf hkvf)
        clear s0 s1 s2 s3
        obtain ⟨hff, hkf⟩ := fl_new vf xe xa
        have HFf := hide1 hff
        have HAf := hide1 hkf
        clear hff hkf
        obtain ⟨Vf, hVf⟩ : ∃ Vf, vf.alloc (.cells #[.int .i64 xe, .int .i64 xa, .string ⟨#[]⟩] 44) = Vf := ⟨_, rfl⟩
        rw [hVf] at HFf HAf ⊢
        clear hVf
        obtain ⟨bf, hbf⟩ : ∃ bf, vf.heap.size = bf := ⟨_, rfl⟩
        rw [hbf] at HFf ⊢
        clear hbf
        have HKf := hide1 (gtrans HKvf.out HAf.out)
        have HDf := hide1 (gtrans HEvf.out HAf.out)
        clear HAf HEvf HKvf
        have HZef := HDf
        have HZdf := hide1 (gtrans HDe.out HZef.out)
        have HZcf := hide1 (gtrans HDd.out HZdf.out)
        have HZbf := hide1 (gtrans HDc.out HZcf.out)
        obtain ⟨w0, w1', w2'⟩ := (HFw.out.keep HKf.out).cells.1
        obtain ⟨b0', b1', b2'⟩ := (HFb.out.keep HZbf.out).cells.1
        obtain ⟨c0', c1', c2'⟩ := (HFc.out.keep HZcf.out).cells.1
        obtain ⟨d0', d1', d2'⟩ := (HFd.out.keep HZdf.out).cells.1
        obtain ⟨e0', e1', e2'⟩ := (HFe.out.keep HZef.out).cells.1
        obtain ⟨f0', f1', f2'⟩ := HFf.out.cells.1
        have HKT := hide1 (gtrans HK3.out HKf.out)
        obtain ⟨s0, s1, s2, s3⟩ := (HSB.out.keep HKf.out).facts
        have n0 := kcellS s0
        have n1 := kcellS s1
        have n2 := kcellS s2
        have n3 := kcellS s3
        have m0 := kcellS (grown_cell HKT.out c0)
        have m1 := kcellS (grown_cell HKT.out c1)
        have m2 := kcellS (grown_cell HKT.out c2)
        have m3 := kcellS (grown_cell HKT.out c3)
        have HKP : Hid (∀ w', Kept Vf w' → Calls Tryd.prog 24 #[.agg #[.slice (some ⟨g, 0, none⟩) nl (nl + 1), .slice (some ⟨gn, 0, none⟩) nn (nn + 1), .int .i64 st, .slice (some ⟨gq, 0, none⟩) np (np + 1)], .agg #[.slice al nl cl, .slice an nn cn, .int .i64 st, .slice ap np cp]] w' fun e w2 => e = .returned (.bool true) ∧ Kept w' w2) := fun w' hk' => keptS_is k lex names ps g gn gq al an ap nl cl nn cn np cp st w' HLEN.out HNAM.out HPS.out hz1 hz2 hz3 HROW.out (HLT.out.keep (gtrans HKf.out hk')) (HL.out.keep (gtrans HK0.out (gtrans HKT.out hk'))) (HN.out.keep (gtrans HK0.out (gtrans HKT.out hk'))) (HP.out.keep (gtrans HK0.out (gtrans HKT.out hk')))
        have hkr : Kept Vf Vf := Kept.refl Vf
        go_upto_region 17 with fail
        clear w0 w1' w2' b0' b1' b2' c0' c1' c2' d0' d1' d2' e0' e1' e2' f0' f1' f2'
        clear s0 s1 s2 s3 c0 c1 c2 c3
        go_region_held3 (fun w' => Kept Vf w') (first | assumption | exact Kept.refl _ | exact drew_kept _)
          ((go_at_call 24; refine (HKP.out _ (by first | assumption | exact drew_kept _ | exact Kept.refl _)).mono ?_; rintro e w9 ⟨rfl, hw9⟩; have k9 : Kept Vf w9 := gtrans (by first | assumption | exact drew_kept _ | exact Kept.refl _) hw9; clear hw9))
        have HK9 := hide1 (gtrans HKr.out (gtrans HKT.out k9))
        clear n0 n1 n2 n3 m0 m1 m2 m3 hkr k9 HKP
        go_wp2_with fail
        go_roundw
        case rel => exact ⟨j + 1, by go_num, by omega, HK9⟩
        case measure => simp [intOf]; omega
    · go_wp2_with (go_at_call 8; refine (head_is7 wr (HT.out.keep HKr.out)).mono ?_; rintro e w9 ⟨rfl, hk9⟩; have HK9 := hide1 (gtrans HKr.out hk9); clear hk9)
      go_ret
      exact ⟨rfl, HK9.out⟩

end Ex
end Go.Proofs.YtggodknnfpegmaaDoor
