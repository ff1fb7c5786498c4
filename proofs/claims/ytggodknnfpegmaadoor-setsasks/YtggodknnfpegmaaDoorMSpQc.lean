import Derived.Test.YtggodknnfpegmaaDoorMSpQb
namespace Go.Proofs.YtggodknnfpegmaaDoor
open Go.RowKit
attribute [local go_sem] Oper.semAt_some
namespace Ex

set_option linter.unusedSimpArgs false in
set_option maxRecDepth 100000 in
set_option maxHeartbeats 16000000 in
/-- The law SetsAsks. -/
theorem lawAsks (k : Nat) (lex : List (LexM k)) (names : List ByteArray) (ps : List ProdM) (al an ap : Option Addr) (nl cl nn cn np cp : Nat) (st : Int) (w : World) (hlex : lex.length = nl) (hnames : names.length = nn) (hps : ps.length = np) (hsz : nl * 88 ≤ 140737488351232 ∧ nn * 16 ≤ 140737488351232 ∧ np * 32 ≤ 140737488351232 ∧ ∀ p ∈ ps, p.2.length * 16 ≤ 140737488351232) (hl : LexAt w k (.slice al nl cl) lex) (hn : NamesAt w (.slice an nn cn) names) (hp : ProdsAt w (.slice ap np cp) ps) (hT : TabAt w) :
    Calls Tryd.prog 6 #[.agg #[.slice al nl cl, .slice an nn cn, .int .i64 st, .slice ap np cp]] w fun e w' => e = .returned (.bool true) ∧ Kept w w' := by
  have HK0 : Hid (Kept w (w.alloc (.cells #[.slice al nl cl, .slice an nn cn, .int .i64 st, .slice ap np cp] 26))) := (Kept.refl w).alloc _ _
  have HB0 := hide1 (SBox.new w (.slice al nl cl) (.slice an nn cn) (.int .i64 st) (.slice ap np cp))
  have HLS : Hid (∀ l ∈ lex, l.1.size ≤ 200000000000000) := lex_sizes hl
  have HROW : Hid (∀ p ∈ ps, p.2.length ≤ 8796093022207) := fun p hp => by have := hsz.2.2.2 p hp; omega
  have hz1 : nl ≤ 1600000000000 := by omega
  have hz2 : nn ≤ 8796093022207 := by omega
  have hz3 : np ≤ 4398046511103 := by omega
  have HT := hide1 hT
  have HL := hide1 hl
  have HN := hide1 hn
  have HP := hide1 hp
  have HLEN := hide1 hlex
  have HNAM := hide1 hnames
  have HPS := hide1 hps
  have HZZ := hide1 hsz
  clear hlex hnames hps hsz hl hn hp hT
  go_enter Tryd.func6, Tryd.ntmps6
  go_upto_region 1 with fail
  obtain ⟨W0, hW0⟩ : ∃ W0, w.alloc (.cells #[.slice al nl cl, .slice an nn cn, .int .i64 st, .slice ap np cp] 26) = W0 := ⟨_, rfl⟩
  rw [hW0] at HK0 HB0 ⊢
  clear hW0
  obtain ⟨b0, hb0⟩ : ∃ b0, w.heap.size = b0 := ⟨_, rfl⟩
  rw [hb0] at HB0 ⊢
  clear hb0
  obtain ⟨s0, s1, s2, s3⟩ := HB0.out.facts
  go_upto_region 2 with (go_at_call 18; refine (dCheck_is k lex ps al an ap nl cl nn cn np cp st W0 (by omega) HLEN.out HPS.out (HL.out.keep HK0.out) (HP.out.keep HK0.out)).mono ?_; rintro e w1 ⟨⟨xe, xa⟩, rfl, hq2, hk2⟩; have HQ := hide1 hq2; have HK1 := hide1 hk2; clear hq2 hk2)
  clear s0 s1 s2 s3
  have HKW := hide1 (gtrans HK0.out HK1.out)
  by_cases hx0 : xe = 0
  · subst hx0
    have HQ0 : Hid (CheckQ lex ps nn nl st (0, 0)) := by have := checkQ_zero HQ.out rfl; rw [this] at HQ; exact HQ.out
    have HFA := hide1 (check_all HLEN.out HQ0.out)
    clear HQ
    have hn64 : nl ≤ 64 := HFA.out.1.1
    have hn128 : nn ≤ 128 := HFA.out.1.2.1
    have HST : Hid (0 ≤ st ∧ st < (nn : Int)) := HFA.out.1.2.2
    have H16 : Hid (∀ p ∈ ps, p.2.length ≤ 16) := HFA.out.2.1
    have HOK : Hid (∀ p ∈ ps, (0 ≤ p.1 ∧ p.1 < (nn : Int)) ∧ ∀ x ∈ p.2, symErr lex nn x = 0) := HFA.out.2.2
    have HNM : Hid (∀ p ∈ ps, (0 ≤ p.1 ∧ p.1 < (nn : Int)) ∧ ∀ x ∈ p.2, x.1 = 3 → 0 ≤ x.2 ∧ x.2 < (nn : Int)) := exact_names HLEN.out HOK.out
    clear HFA
    go_upto_region 4 with (go_at_call 8; refine (head_is7 w1 (HT.out.keep HKW.out)).mono ?_; rintro e w2 ⟨rfl, hk9⟩; have HK2 := hide1 hk9; clear hk9)
    have HKX := hide1 (gtrans HKW.out HK2.out)
    obtain ⟨s0, s1, s2, s3⟩ := (HB0.out.keep (gtrans HK1.out HK2.out)).facts
    go_upto_region 5 with (go_at_call 16; refine (lend_is k lex names ps al an ap nl cl nn cn np cp st w2 HLEN.out HNAM.out HPS.out HZZ.out (HL.out.keep HKX.out) (HN.out.keep HKX.out) (HP.out.keep HKX.out)).mono ?_; rintro e w3 ⟨g, gn, gq, rfl, hlt1, hk1⟩; have HLT1 := hide1 hlt1; have HK3 := hide1 hk1; clear hlt1 hk1)
    clear s0 s1 s2 s3
    have HSB1 := hide1 (SBox.new w3 (.slice (some ⟨g, 0, none⟩) nl (nl + 1)) (.slice (some ⟨gn, 0, none⟩) nn (nn + 1)) (.int .i64 st) (.slice (some ⟨gq, 0, none⟩) np (np + 1)))
    have HA1 : Hid (Kept w3 (w3.alloc (.cells #[.slice (some ⟨g, 0, none⟩) nl (nl + 1), .slice (some ⟨gn, 0, none⟩) nn (nn + 1), .int .i64 st, .slice (some ⟨gq, 0, none⟩) np (np + 1)] 26))) := (Kept.refl w3).alloc _ _
    obtain ⟨W3, hW3⟩ : ∃ W3, w3.alloc (.cells #[.slice (some ⟨g, 0, none⟩) nl (nl + 1), .slice (some ⟨gn, 0, none⟩) nn (nn + 1), .int .i64 st, .slice (some ⟨gq, 0, none⟩) np (np + 1)] 26) = W3 := ⟨_, rfl⟩
    rw [hW3] at HSB1 HA1 ⊢
    clear hW3
    obtain ⟨sb, hsb⟩ : ∃ sb, w3.heap.size = sb := ⟨_, rfl⟩
    rw [hsb] at HSB1 ⊢
    clear hsb
    have HSB := HSB1
    have HLT := hide1 (HLT1.out.keep HA1.out)
    have HK03 := hide1 (gtrans HKX.out (gtrans HK3.out HA1.out))
    have HBB := hide1 (HB0.out.keep (gtrans (gtrans HK1.out HK2.out) (gtrans HK3.out HA1.out)))
    clear HSB1 HLT1 HA1 HK3 HKX HKW HK2 HK1 HB0 HK0
    have HLX : Hid (∀ w', Kept W3 w' → LexAt w' k (.slice (some ⟨g, 0, none⟩) nl (nl + 1)) lex) := fun w' hk' => (HLT.out.keep hk').lexAt HLEN.out (by omega) HLS.out
    have HPX : Hid (∀ w', Kept W3 w' → ProdsAt w' (.slice (some ⟨gq, 0, none⟩) np (np + 1)) ps) := fun w' hk' => (HLT.out.keep hk').prodsAt HPS.out (by omega) (fun p hp => by have := HROW.out p hp; omega)
    have HTX : Hid (∀ w', Kept W3 w' → TabAt w') := fun w' hk' => HT.out.keep (gtrans HK03.out hk')
    have HKz : Hid (Kept W3 W3) := Kept.refl W3
    obtain ⟨s0, s1, s2, s3⟩ := (HSB.out.keep HKz.out).facts
    go_upto_region 6 with (go_at_call 20; refine (sNull_is k lex ps (some ⟨g, 0, none⟩) (some ⟨gn, 0, none⟩) (some ⟨gq, 0, none⟩) nl (nl + 1) nn (nn + 1) np (np + 1) st _ (by omega) HLEN.out HPS.out (HLX.out _ HKz.out) (HPX.out _ HKz.out) (HTX.out _ HKz.out)).mono ?_; rintro e wp hp; obtain ⟨vp, rfl, hop, hkp⟩ := ask_ok hp HQ0.out; obtain ⟨gap, lp, rfl, hap, hrp⟩ := null_a hn128 hop; have HYp := hide1 hap; have HRp := hide1 hrp; have HEp := hide1 hkp; clear hp hkp hop hap hrp)
    clear s0 s1 s2 s3
    obtain ⟨hfp, hkp⟩ := fl_new wp 0 0
    have HFp := hide1 hfp
    have HAp := hide1 hkp
    clear hfp hkp
    obtain ⟨Vp, hVp⟩ : ∃ Vp, wp.alloc (.cells #[.int .i64 0, .int .i64 0, .string ⟨#[]⟩] 44) = Vp := ⟨_, rfl⟩
    rw [hVp] at HFp HAp ⊢
    clear hVp
    obtain ⟨bp, hbp⟩ : ∃ bp, wp.heap.size = bp := ⟨_, rfl⟩
    rw [hbp] at HFp ⊢
    clear hbp
    have HKp := hide1 (gtrans HKz.out (gtrans HEp.out HAp.out))
    have HDp := hide1 (gtrans HEp.out HAp.out)
    have HSp := hide1 (HRp.out.keep HAp.out)
    clear HRp HAp HEp
    obtain ⟨s0, s1, s2, s3⟩ := (HSB.out.keep HKp.out).facts
    go_upto_region 7 with (go_at_call 21; refine (sFirst_is k lex ps (some ⟨g, 0, none⟩) (some ⟨gn, 0, none⟩) (some ⟨gq, 0, none⟩) nl (nl + 1) nn (nn + 1) np (np + 1) st _ (by omega) HLEN.out HPS.out (HLX.out _ HKp.out) (HPX.out _ HKp.out) (HTX.out _ HKp.out)).mono ?_; rintro e wq hq; obtain ⟨vq, rfl, hoq, hkq⟩ := ask_ok hq HQ0.out; obtain ⟨gaq, lq, rfl, haq, hrq⟩ := first_a hn128 hoq; have HYq := hide1 haq; have HRq := hide1 hrq; have HEq := hide1 hkq; clear hq hkq hoq haq hrq)
    clear s0 s1 s2 s3
    obtain ⟨hfq, hkq⟩ := fl_new wq 0 0
    have HFq := hide1 hfq
    have HAq := hide1 hkq
    clear hfq hkq
    obtain ⟨Vq, hVq⟩ : ∃ Vq, wq.alloc (.cells #[.int .i64 0, .int .i64 0, .string ⟨#[]⟩] 44) = Vq := ⟨_, rfl⟩
    rw [hVq] at HFq HAq ⊢
    clear hVq
    obtain ⟨bq, hbq⟩ : ∃ bq, wq.heap.size = bq := ⟨_, rfl⟩
    rw [hbq] at HFq ⊢
    clear hbq
    have HKq := hide1 (gtrans HKp.out (gtrans HEq.out HAq.out))
    have HDq := hide1 (gtrans HEq.out HAq.out)
    have HSq := hide1 (HRq.out.keep HAq.out)
    clear HRq HAq HEq
    obtain ⟨s0, s1, s2, s3⟩ := (HSB.out.keep HKq.out).facts
    go_upto_region 8 with (go_at_call 22; refine (sFollow_is k lex ps (some ⟨g, 0, none⟩) (some ⟨gn, 0, none⟩) (some ⟨gq, 0, none⟩) nl (nl + 1) nn (nn + 1) np (np + 1) st _ (by omega) HLEN.out HPS.out (HLX.out _ HKq.out) (HPX.out _ HKq.out) (HTX.out _ HKq.out)).mono ?_; rintro e wr hr; obtain ⟨vr, rfl, hor, hkr⟩ := ask_ok hr HQ0.out; obtain ⟨gar, lr, rfl, har, hrr⟩ := follow_a hn128 hor; have HYr := hide1 har; have HRr := hide1 hrr; have HEr := hide1 hkr; clear hr hkr hor har hrr)
    clear s0 s1 s2 s3
    obtain ⟨hfr, hkr⟩ := fl_new wr 0 0
    have HFr := hide1 hfr
    have HAr := hide1 hkr
    clear hfr hkr
    obtain ⟨Vr, hVr⟩ : ∃ Vr, wr.alloc (.cells #[.int .i64 0, .int .i64 0, .string ⟨#[]⟩] 44) = Vr := ⟨_, rfl⟩
    rw [hVr] at HFr HAr ⊢
    clear hVr
    obtain ⟨br, hbr⟩ : ∃ br, wr.heap.size = br := ⟨_, rfl⟩
    rw [hbr] at HFr ⊢
    clear hbr
    have HKr := hide1 (gtrans HKq.out (gtrans HEr.out HAr.out))
    have HDr := hide1 (gtrans HEr.out HAr.out)
    have HSr := hide1 (HRr.out.keep HAr.out)
    clear HRr HAr HEr
    obtain ⟨s0, s1, s2, s3⟩ := (HSB.out.keep HKr.out).facts
    go_upto_region 9 with (go_at_call 23; refine (sYields_is k lex ps (some ⟨g, 0, none⟩) (some ⟨gn, 0, none⟩) (some ⟨gq, 0, none⟩) nl (nl + 1) nn (nn + 1) np (np + 1) st _ (by omega) HLEN.out HPS.out (HLX.out _ HKr.out) (HPX.out _ HKr.out) (HTX.out _ HKr.out)).mono ?_; rintro e wt ht; obtain ⟨xe, xa, vt, rfl, hot, hkt⟩ := asky_ok ht HQ0.out; have HOt := hide1 hot; have HEt := hide1 hkt; clear ht hkt hot)
    clear s0 s1 s2 s3
    obtain ⟨hft, hkt⟩ := fl_new wt xe xa
    have HFt := hide1 hft
    have HAt := hide1 hkt
    clear hft hkt
    obtain ⟨Vt, hVt⟩ : ∃ Vt, wt.alloc (.cells #[.int .i64 xe, .int .i64 xa, .string ⟨#[]⟩] 44) = Vt := ⟨_, rfl⟩
    rw [hVt] at HFt HAt ⊢
    clear hVt
    obtain ⟨bt, hbt⟩ : ∃ bt, wt.heap.size = bt := ⟨_, rfl⟩
    rw [hbt] at HFt ⊢
    clear hbt
    have HKt := hide1 (gtrans HKr.out (gtrans HEt.out HAt.out))
    have HDt := hide1 (gtrans HEt.out HAt.out)
    have HY9 : Hid (∀ w', Kept W3 w' → Calls Tryd.prog 26 #[.agg #[.slice al nl cl, .slice an nn cn, .int .i64 st, .slice ap np cp]] w' (YldD nl nn ps w')) := fun w' hk' => dYields_is k lex ps al an ap nl cl nn cn np cp (.int .i64 st) w' hn64 hn128 HLEN.out HPS.out (HP.out.keep (gtrans HK03.out hk')) H16.out HOK.out
    obtain ⟨s0, s1, s2, s3⟩ := (HBB.out.keep HKt.out).facts
    go_upto_region 10 with (go_at_call 26; refine (HY9.out _ HKt.out).mono ?_; rintro e w8 h8; obtain ⟨ay, ny, ad, ly, ev, rfl, hz8, hl8, hr8, hd8, hk8⟩ := yields_both hn128 HOt.out h8; subst ev; have HZ8 := hide1 hz8; have HL8 := hide1 hl8; have HR8 := hide1 hr8; have HD8 := hide1 hd8; have HK8a := hide1 hk8; clear h8 hz8 hl8 hr8 hd8 hk8)
    clear s0 s1 s2 s3
    have HK8 := hide1 (gtrans HKt.out HK8a.out)
    have HMt := HK8a
    have HMr := hide1 (gtrans HDt.out HMt.out)
    have HMq := hide1 (gtrans HDr.out HMr.out)
    have HMp := hide1 (gtrans HDq.out HMq.out)
    obtain ⟨s0, s1, s2, s3⟩ := (HSB.out.keep HK8.out).facts
    obtain ⟨r0, r1, r2, r3⟩ := (HBB.out.keep HK8.out).facts
    obtain ⟨p0, p1, p2⟩ := (HFp.out.keep HMp.out).cells.1
    obtain ⟨q0, q1, q2⟩ := (HFq.out.keep HMq.out).cells.1
    obtain ⟨u0, u1, u2⟩ := (HFr.out.keep HMr.out).cells.1
    obtain ⟨t0, t1, t2⟩ := (HFt.out.keep HMt.out).cells.1
    have ks0 := kcellS s0
    have ks1 := kcellS s1
    have ks2 := kcellS s2
    have ks3 := kcellS s3
    clear s0 s1 s2 s3
    have kr0 := kcellS r0
    have kr1 := kcellS r1
    have kr2 := kcellS r2
    have kr3 := kcellS r3
    clear r0 r1 r2 r3
    have kp0 := kcellS p0
    have kp1 := kcellS p1
    have kp2 := kcellS p2
    clear p0 p1 p2
    have kq0 := kcellS q0
    have kq1 := kcellS q1
    have kq2 := kcellS q2
    clear q0 q1 q2
    have ku0 := kcellS u0
    have ku1 := kcellS u1
    have ku2 := kcellS u2
    clear u0 u1 u2
    have kt0 := kcellS t0
    have kt1 := kcellS t1
    have kt2 := kcellS t2
    clear t0 t1 t2
    have HKP : Hid (∀ w', Kept w8 w' → Calls Tryd.prog 24 #[.agg #[.slice (some ⟨g, 0, none⟩) nl (nl + 1), .slice (some ⟨gn, 0, none⟩) nn (nn + 1), .int .i64 st, .slice (some ⟨gq, 0, none⟩) np (np + 1)], .agg #[.slice al nl cl, .slice an nn cn, .int .i64 st, .slice ap np cp]] w' fun e w2 => e = .returned (.bool true) ∧ Kept w' w2) := fun w' hk' => keptS_is k lex names ps g gn gq al an ap nl cl nn cn np cp st w' HLEN.out HNAM.out HPS.out hz1 hz2 hz3 HROW.out (HLT.out.keep (gtrans HK8.out hk')) (HL.out.keep (gtrans HK03.out (gtrans HK8.out hk'))) (HN.out.keep (gtrans HK03.out (gtrans HK8.out hk'))) (HP.out.keep (gtrans HK03.out (gtrans HK8.out hk')))
    have hkr : Kept w8 w8 := Kept.refl w8
    go_region_held3 (fun w' => Kept w8 w') (first | assumption | exact Kept.refl _ | exact drew_kept _)
      (first
      | (go_at_call 24; refine (HKP.out _ (by first | assumption | exact drew_kept _ | exact Kept.refl _)).mono ?_; rintro e w9 ⟨rfl, hw9⟩; have k9 : Kept w8 w9 := gtrans (by first | assumption | exact drew_kept _ | exact Kept.refl _) hw9; clear hw9)
      | (go_at_call 19; refine (fault7_is xe xa HZ8.out _).mono ?_; rintro e wf ⟨rfl, hwf⟩; have kf : Kept w8 wf := gtrans (by first | assumption | exact drew_kept _ | exact Kept.refl _) hwf; clear hwf))
    have HK9 := hide1 k9
    clear hkr k9 HKP ks0 ks1 ks2 ks3 kr0 kr1 kr2 kr3 kp0 kp1 kp2 kq0 kq1 kq2 ku0 ku1 ku2 kt0 kt1 kt2
    have HKT := hide1 (gtrans HK8.out HK9.out)
    have HW := hide1 (gtrans HK03.out HKT.out)
    have HB9 := hide1 (HBB.out.keep HKT.out)
    have HP9 := hide1 (HP.out.keep HW.out)
    have HRP := hide1 (HSp.out.keep (gtrans HMp.out HK9.out))
    have HRQ := hide1 (HSq.out.keep (gtrans HMq.out HK9.out))
    have HRR := hide1 (HSr.out.keep (gtrans HMr.out HK9.out))
    have HRT := hide1 (HR8.out.keep (gtrans HAt.out (gtrans HMt.out HK9.out)))
    have HRD := hide1 (HD8.out.keep HK9.out)
    have HFO : Hid (∀ w', Kept w9 w' → Calls Tryd.prog 31 #[.agg #[.slice al nl cl, .slice an nn cn, .int .i64 st, .slice ap np cp]] w' (FolR nl nn st.toNat ps w')) := fun w' hk' => by
      have e : ((st.toNat : Nat) : Int) = st := Int.toNat_of_nonneg HST.out.1
      have h := dFollow_is k lex ps al an ap nl cl nn cn np cp st.toNat w' hn64 hn128 (by have := HST.out; omega) HLEN.out HPS.out (HP9.out.keep hk') HOK.out
      rw [e] at h
      exact h
    have HFI : Hid (∀ w', Kept w9 w' → Calls Tryd.prog 30 #[.agg #[.slice al nl cl, .slice an nn cn, .int .i64 st, .slice ap np cp]] w' (FirR nl nn ps w')) := fun w' hk' => dFirst_is k lex ps al an ap nl cl nn cn np cp (.int .i64 st) w' hn64 hn128 (by have := HST.out; omega) HLEN.out HPS.out (HP9.out.keep hk') HOK.out
    have HNU : Hid (∀ w', Kept w9 w' → Calls Tryd.prog 28 #[.agg #[.slice al nl cl, .slice an nn cn, .int .i64 st, .slice ap np cp]] w' (NullR ps nn w')) := fun w' hk' => dNullable_is ps (.slice al nl cl) (.int .i64 st) an ap nn cn np cp w' hn128 HPS.out (HP9.out.keep hk') HNM.out
    have HLP := hide1 HYp.out.1
    have HLQ := hide1 (ans_len HYq.out)
    have HLR := hide1 (ans_len HYr.out)
    have hK9 : Kept w9 w9 := Kept.refl w9
    have HX9 := hide1 hK9
    clear hK9 HKT HSp HSq HSr HR8 HD8
    obtain ⟨s0, s1, s2, s3⟩ := HB9.out.facts
    go_wp2_with (first
      | (go_at_call 32; refine (sameRowsS_is ay ad ny ny ny ny ly ly _ HL8.out HL8.out (HRT.out.keep HXF.out) (HRD.out.keep HXF.out)).mono ?_; rintro e wG ⟨rfl, hG⟩; rw [decide_eq_true rfl]; have HXG := hide1 (gtrans HXF.out hG); clear hG)
      | (have _g := HXE; clear _g; go_at_call 29; refine (sameSetsS_is nl _ nn nn gE nn cE lr GE _ hn64 HLR.out HGE.out hcE hn128 (HRR.out.keep HXE.out) HFE.out).mono ?_; rintro e wF ⟨rfl, hF⟩; rw [HEE.out]; have HXF := hide1 (gtrans HXE.out hF); clear hF)
      | (go_at_call 31; refine (HFO.out _ HXD.out).mono ?_; rintro e wE hE; obtain ⟨gE, cE, GE, rfl, hcE, h1, h2, h3, h4⟩ := follow_d hn64 HYr.out hE; have HGE := hide1 h1; have HFE := hide1 h2; have HEE := hide1 h3; have HXE := hide1 (gtrans HXD.out h4); clear h1 h2 h3 h4 hE)
      | (go_at_call 29; refine (sameSetsS_is nl _ nn nn gC nn cC lq GC _ hn64 HLQ.out HGC.out hcC hn128 (HRQ.out.keep HXC.out) HFC.out).mono ?_; rintro e wD ⟨rfl, hD⟩; rw [HEC.out]; have HXD := hide1 (gtrans HXC.out hD); obtain ⟨s0, s1, s2, s3⟩ := (HB9.out.keep HXD.out).facts; clear hD)
      | (go_at_call 30; refine (HFI.out _ HXB.out).mono ?_; rintro e wC hC; obtain ⟨gC, cC, GC, rfl, hcC, h1, h2, h3, h4⟩ := first_d hn64 HYq.out hC; have HGC := hide1 h1; have HFC := hide1 h2; have HEC := hide1 h3; have HXC := hide1 (gtrans HXB.out h4); clear h1 h2 h3 h4 hC)
      | (go_at_call 27; refine (sameBoolsS_is _ _ nn nn nn nn lp lA _ HLP.out HLA.out (HRP.out.keep HXA.out) HRA.out).mono ?_; rintro e wB ⟨rfl, hB⟩; rw [HEA.out]; have HXB := hide1 (gtrans HXA.out hB); obtain ⟨s0, s1, s2, s3⟩ := (HB9.out.keep HXB.out).facts; clear hB)
      | (go_at_call 28; refine (HNU.out _ HX9.out).mono ?_; rintro e wA hA; obtain ⟨gA, lA, rfl, h1, h2, h3⟩ := null_d hn128 hA; have HLA := hide1 h1.1; have HRA := hide1 h2; have HEA : Hid (decide (lp = lA) = true) := decide_eq_true (HYp.out.one h1); have HXA := hide1 (gtrans HX9.out h3); clear h1 h2 h3 hA))
    go_ret
    exact ⟨rfl, gtrans HW.out HXG.out⟩
  · have b0' : (xe != 0) = true := by simpa using hx0
    clear hx0
    go_wp2_with (go_at_call 8; refine (head_is7 w1 (HT.out.keep HKW.out)).mono ?_; rintro e w9 ⟨rfl, hk9⟩; have HK9 := hide1 (gtrans HKW.out hk9); clear hk9)
    go_ret
    exact ⟨rfl, HK9.out⟩

end Ex
end Go.Proofs.YtggodknnfpegmaaDoor
