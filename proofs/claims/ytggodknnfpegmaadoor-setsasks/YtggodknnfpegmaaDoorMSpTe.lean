import Derived.Test.YtggodknnfpegmaaDoorMSpQf
namespace Go.Proofs.YtggodknnfpegmaaDoor
open Go.RowKit
attribute [local go_sem] Oper.semAt_some
namespace Ex

theorem fl_td_ne {w : World} {b c : Nat} {e a : Int} {x0 x1 x2 x3 : Value} {f : Bool} (h1 : FlBox w b e a) (h2 : TdBox w c x0 x1 x2 x3 f) : b ≠ c := fun e => by
  subst e
  unfold FlBox at h1
  unfold TdBox at h2
  rw [h1] at h2
  injection h2 with h2
  injection h2 with _ h2 _
  exact absurd h2 (by decide)
theorem nullOk_but {ps : List ProdM} {nn base c : Nat} {v : Value} {w w' : World} (h : NullOk ps nn base v w) (hk : KeptBut c w w') (hc : c < base) : NullOk ps nn base v w' := by
  obtain ⟨E, h1, g, h2, h3, h4⟩ := h
  exact ⟨E, h1, g, h2, h3, h4.blk.but hk (by omega)⟩
theorem firstOk_but {nl nn base c : Nat} {ps : List ProdM} {v : Value} {w w' : World} (h : FirstOk nl ps nn base v w) (hk : KeptBut c w w') (hc : c < base) : FirstOk nl ps nn base v w' := by
  obtain ⟨F, h1, h2, h3⟩ := h
  exact ⟨F, h1, h2, h3.but hk hc⟩
theorem followOk_but {nl st nn base c : Nat} {ps : List ProdM} {v : Value} {w w' : World} (h : FollowOk nl st ps nn base v w) (hk : KeptBut c w w') (hc : c < base) : FollowOk nl st ps nn base v w' := by
  obtain ⟨F, G, h1, h2, h3, h4⟩ := h
  exact ⟨F, G, h1, h2, h3, h4.but hk hc⟩
theorem nullOk_down {ps : List ProdM} {nn base base' : Nat} {v : Value} {w : World} (h : NullOk ps nn base v w) (hb : base' ≤ base) : NullOk ps nn base' v w := by
  obtain ⟨E, h1, g, h2, h3, h4⟩ := h
  exact ⟨E, h1, g, h2, Nat.le_trans hb h3, h4⟩
theorem firstOk_down {nl nn base base' : Nat} {ps : List ProdM} {v : Value} {w : World} (h : FirstOk nl ps nn base v w) (hb : base' ≤ base) : FirstOk nl ps nn base' v w := by
  obtain ⟨F, h1, h2, h3⟩ := h
  exact ⟨F, h1, h2, h3.down hb⟩
theorem followOk_down {nl st nn base base' : Nat} {ps : List ProdM} {v : Value} {w : World} (h : FollowOk nl st ps nn base v w) (hb : base' ≤ base) : FollowOk nl st ps nn base' v w := by
  obtain ⟨F, G, h1, h2, h3, h4⟩ := h
  exact ⟨F, G, h1, h2, h3, h4.down hb⟩
set_option linter.unusedSimpArgs false in
set_option maxRecDepth 100000 in
set_option maxHeartbeats 8000000 in
theorem told_is (k : Nat) (lex : List (LexM k)) (ps : List ProdM) (al an ap : Option Addr) (nl cl nn cn np cp : Nat) (st : Int) (w : World) (hnn : nn ≤ 17592186044416) (hlex : lex.length = nl) (hps : ps.length = np) (hl : LexAt w k (.slice al nl cl) lex) (hp : ProdsAt w (.slice ap np cp) ps) (hT : TabAt w) :
    Calls Tryd.prog 7 #[.agg #[.slice al nl cl, .slice an nn cn, .int .i64 st, .slice ap np cp]] w (ToldR lex ps nn nl st w) := by
  obtain ⟨h1, h2, h3, h4⟩ := td_start w (.slice al nl cl) (.slice an nn cn) (.int .i64 st) (.slice ap np cp)
  have HB := hide1 h1
  have HR := hide1 h2
  have HD := hide1 h3
  have HK := hide1 h4
  have HC := hide1 (sCheckTop_is k lex ps al an ap nl cl nn cn np cp st _ hnn hlex hps (hl.keep h4) (hp.keep h4))
  have HP := hide1 hp
  have HL := hide1 hl
  have HPS := hide1 hps
  have HLEN := hide1 hlex
  have HT := hide1 hT
  have HNN := hide1 hnn
  have gn : (nn : Int) ≤ 17592186044416 := by omega
  clear h1 h2 h3 h4 hp hps hl hlex hnn hT
  go_enter Tryd.func7, Tryd.ntmps7
  go_upto_region 2 with fail
  obtain ⟨W, hW⟩ : ∃ W, ((w.alloc (.cells #[.slice al nl cl, .slice an nn cn, .int .i64 st, .slice ap np cp] 26)).alloc (.cells #[.slice none 0 0, .slice none 0 0, .slice none 0 0, .slice none 0 0, .bool false] 30)).alloc (.cells #[.slice none 0 0, .slice none 0 0, .slice none 0 0, .slice none 0 0, .bool false] 30) = W := ⟨_, rfl⟩
  rw [hW] at HB HR HD HK HC ⊢
  clear hW
  obtain ⟨b, hb⟩ : ∃ b, w.heap.size = b := ⟨_, rfl⟩
  rw [hb] at HB HR HD ⊢
  have HSZ := hide1 hb
  clear hb
  obtain ⟨s0, s1, s2, s3⟩ := HB.out.facts
  go_upto_region 3 with (go_at_call 17; refine HC.out.mono ?_; rintro e w6 ⟨⟨xe, xa⟩, rfl, hq6, hk6⟩; rw [faultV_eq]; have HQ6 := hide1 hq6; have HK6 := hide1 hk6; clear hq6 hk6)
  clear s0 s1 s2 s3
  have HXB : Hid (FlBox (w6.alloc (.cells #[.int .i64 xe, .int .i64 xa, .string ⟨#[]⟩] 44)) w6.heap.size xe xa) := heap_alloc_new w6 _
  have HK7 := hide1 (gtrans HK6.out ((Kept.refl w6).alloc #[.int .i64 xe, .int .i64 xa, .string ⟨#[]⟩] 44))
  obtain ⟨W0, hW7⟩ : ∃ W0, w6.alloc (.cells #[.int .i64 xe, .int .i64 xa, .string ⟨#[]⟩] 44) = W0 := ⟨_, rfl⟩
  rw [hW7] at HXB HK7 ⊢
  clear hW7
  obtain ⟨xb, hxb⟩ : ∃ xb, w6.heap.size = xb := ⟨_, rfl⟩
  rw [hxb] at HXB ⊢
  clear hxb
  have x0 := HXB.out.cells.1.1
  have HKw0 := hide1 (gtrans HK.out HK7.out)
  have HB0 := hide1 (HB.out.keep HK7.out)
  have HR0 := hide1 (HR.out.keep HK7.out)
  have HD0 := hide1 (HD.out.keep HK7.out)
  by_cases hx0 : xe = 0
  · subst hx0
    have HPA := hide1 (checkQ_ok HQ6.out rfl)
    have HQ0 : Hid (CheckQ lex ps nn nl st (0, 0)) := by
      have h := HQ6.out
      rw [HPA.out.1] at h
      exact h
    obtain ⟨s0, s1, s2, s3⟩ := HB0.out.facts
    go_upto_region 6 with (go_at_call 20; refine (null_ok k lex ps al an ap nl cl nn cn np cp st _ HNN.out HLEN.out HPS.out (HL.out.keep HKw0.out) (HP.out.keep HKw0.out) (HT.out.keep HKw0.out) HQ0.out).mono ?_; rintro e v0 ⟨g0, rfl, ho0, hk0⟩; have HO0 := hide1 ho0; have HKc0 := hide1 hk0; clear ho0 hk0)
    clear s0 s1 s2 s3 x0
    have HX0 : Hid (FlBox (v0.alloc (.cells #[.int .i64 0, .int .i64 0, .string ⟨#[]⟩] 44)) v0.heap.size 0 0) := heap_alloc_new v0 _
    have HA0 : Hid (Kept v0 (v0.alloc (.cells #[.int .i64 0, .int .i64 0, .string ⟨#[]⟩] 44))) := (Kept.refl v0).alloc _ _
    obtain ⟨W1, hW1⟩ : ∃ W1, v0.alloc (.cells #[.int .i64 0, .int .i64 0, .string ⟨#[]⟩] 44) = W1 := ⟨_, rfl⟩
    rw [hW1] at HX0 HA0 ⊢
    clear hW1
    obtain ⟨x1, hx1⟩ : ∃ x1, v0.heap.size = x1 := ⟨_, rfl⟩
    rw [hx1] at HX0 ⊢
    clear hx1
    have HG0 := hide1 (gtrans HKc0.out HA0.out)
    have HKw1 := hide1 (gtrans HKw0.out HG0.out)
    have HB1 := hide1 (HB0.out.keep HG0.out)
    have HR1 := hide1 (HR0.out.keep HG0.out)
    have HD1 := hide1 (HD0.out.keep HG0.out)
    obtain ⟨s0, s1, s2, s3⟩ := HB1.out.facts
    go_upto_region 7 with (go_at_call 21; refine (first_ok k lex ps al an ap nl cl nn cn np cp st _ HNN.out HLEN.out HPS.out (HL.out.keep HKw1.out) (HP.out.keep HKw1.out) (HT.out.keep HKw1.out) HQ0.out).mono ?_; rintro e v1 ⟨g1, rfl, ho1, hk1⟩; have HO1 := hide1 ho1; have HKc1 := hide1 hk1; clear ho1 hk1)
    clear s0 s1 s2 s3
    have HX1 : Hid (FlBox (v1.alloc (.cells #[.int .i64 0, .int .i64 0, .string ⟨#[]⟩] 44)) v1.heap.size 0 0) := heap_alloc_new v1 _
    have HA1 : Hid (Kept v1 (v1.alloc (.cells #[.int .i64 0, .int .i64 0, .string ⟨#[]⟩] 44))) := (Kept.refl v1).alloc _ _
    obtain ⟨W2, hW2⟩ : ∃ W2, v1.alloc (.cells #[.int .i64 0, .int .i64 0, .string ⟨#[]⟩] 44) = W2 := ⟨_, rfl⟩
    rw [hW2] at HX1 HA1 ⊢
    clear hW2
    obtain ⟨x2, hx2⟩ : ∃ x2, v1.heap.size = x2 := ⟨_, rfl⟩
    rw [hx2] at HX1 ⊢
    clear hx2
    have HG1 := hide1 (gtrans HKc1.out HA1.out)
    have HKw2 := hide1 (gtrans HKw1.out HG1.out)
    have HB2 := hide1 (HB1.out.keep HG1.out)
    have HR2 := hide1 (HR1.out.keep HG1.out)
    have HD2 := hide1 (HD1.out.keep HG1.out)
    obtain ⟨s0, s1, s2, s3⟩ := HB2.out.facts
    go_upto_region 8 with (go_at_call 22; refine (follow_ok k lex ps al an ap nl cl nn cn np cp st _ HNN.out HLEN.out HPS.out (HL.out.keep HKw2.out) (HP.out.keep HKw2.out) (HT.out.keep HKw2.out) HQ0.out).mono ?_; rintro e v2 ⟨g2, rfl, ho2, hk2⟩; have HO2 := hide1 ho2; have HKc2 := hide1 hk2; clear ho2 hk2)
    clear s0 s1 s2 s3
    have HX2 : Hid (FlBox (v2.alloc (.cells #[.int .i64 0, .int .i64 0, .string ⟨#[]⟩] 44)) v2.heap.size 0 0) := heap_alloc_new v2 _
    have HA2 : Hid (Kept v2 (v2.alloc (.cells #[.int .i64 0, .int .i64 0, .string ⟨#[]⟩] 44))) := (Kept.refl v2).alloc _ _
    obtain ⟨W3, hW3⟩ : ∃ W3, v2.alloc (.cells #[.int .i64 0, .int .i64 0, .string ⟨#[]⟩] 44) = W3 := ⟨_, rfl⟩
    rw [hW3] at HX2 HA2 ⊢
    clear hW3
    obtain ⟨x3, hx3⟩ : ∃ x3, v2.heap.size = x3 := ⟨_, rfl⟩
    rw [hx3] at HX2 ⊢
    clear hx3
    have HG2 := hide1 (gtrans HKc2.out HA2.out)
    have HKw3 := hide1 (gtrans HKw2.out HG2.out)
    have HB3 := hide1 (HB2.out.keep HG2.out)
    have HR3 := hide1 (HR2.out.keep HG2.out)
    have HD3 := hide1 (HD2.out.keep HG2.out)
    obtain ⟨s0, s1, s2, s3⟩ := HB3.out.facts
    go_upto_region 9 with (go_at_call 23; refine (yields_ok k lex ps al an ap nl cl nn cn np cp st _ HNN.out HLEN.out HPS.out (HL.out.keep HKw3.out) (HP.out.keep HKw3.out) (HT.out.keep HKw3.out) HQ0.out).mono ?_; rintro e v3 ⟨ay, m, ye, ya, rfl, ho3, hor, hk3⟩; have HO3 := hide1 ho3; have HKc3 := hide1 hk3; have HOR := hide1 hor; clear hor; clear ho3 hk3)
    clear s0 s1 s2 s3
    have HX3 : Hid (FlBox (v3.alloc (.cells #[.int .i64 ye, .int .i64 ya, .string ⟨#[]⟩] 44)) v3.heap.size ye ya) := heap_alloc_new v3 _
    have HA3 : Hid (Kept v3 (v3.alloc (.cells #[.int .i64 ye, .int .i64 ya, .string ⟨#[]⟩] 44))) := (Kept.refl v3).alloc _ _
    obtain ⟨W4, hW4⟩ : ∃ W4, v3.alloc (.cells #[.int .i64 ye, .int .i64 ya, .string ⟨#[]⟩] 44) = W4 := ⟨_, rfl⟩
    rw [hW4] at HX3 HA3 ⊢
    clear hW4
    obtain ⟨x4, hx4⟩ : ∃ x4, v3.heap.size = x4 := ⟨_, rfl⟩
    rw [hx4] at HX3 ⊢
    clear hx4
    have HG3 := hide1 (gtrans HKc3.out HA3.out)
    have HKw4 := hide1 (gtrans HKw3.out HG3.out)
    have HB4 := hide1 (HB3.out.keep HG3.out)
    have HR4 := hide1 (HR3.out.keep HG3.out)
    have HD4 := hide1 (HD3.out.keep HG3.out)
    obtain ⟨s0, s1, s2, s3⟩ := HB4.out.facts
    have a0 := (HX0.out.keep (gtrans HG1.out (gtrans HG2.out HG3.out))).cells.1.1
    have a1 := (HX1.out.keep (gtrans HG2.out HG3.out)).cells.1.1
    have a2 := (HX2.out.keep HG3.out).cells.1.1
    have a3 := HX3.out.cells.1.1
    have HN4 := hide1 (nullOk_keep HO0.out (gtrans HA0.out (gtrans HG1.out (gtrans HG2.out HG3.out))))
    have HF4 := hide1 (firstOk_keep HO1.out (gtrans HA1.out (gtrans HG2.out HG3.out)))
    have HW4 := hide1 (followOk_keep HO2.out (gtrans HA2.out HG3.out))
    have HY4 := hide1 (yldO_keep HO3.out HA3.out)
    obtain ⟨fl, hfl⟩ : ∃ fl, (ye == 6) = fl := ⟨_, rfl⟩
    have HFL := hide1 hfl
    obtain ⟨⟨d0, d1, d2, d3, d4⟩, z0, z1, z2, z3, z4⟩ := HD4.out.cells
    go_upto_region 11 with fail
    clear s0 s1 s2 s3 d0 d1 d2 d3 d4 z0 z1 z2 z3 z4
    obtain ⟨D, hD⟩ : ∃ D, ((((W4.setCell ⟨b + 1 + 1, 0, none⟩ (.slice (some ⟨g0, 0, none⟩) nn nn)).setCell ⟨b + 1 + 1, 1, none⟩ (.slice (some ⟨g1, 0, none⟩) nn nn)).setCell ⟨b + 1 + 1, 2, none⟩ (.slice (some ⟨g2, 0, none⟩) nn nn)).setCell ⟨b + 1 + 1, 3, none⟩ (.slice ay m m)).setCell ⟨b + 1 + 1, 4, none⟩ (.bool fl) = D := ⟨_, rfl⟩
    have HDD := hide1 (HD4.out.fill (.slice (some ⟨g0, 0, none⟩) nn nn) (.slice (some ⟨g1, 0, none⟩) nn nn) (.slice (some ⟨g2, 0, none⟩) nn nn) (.slice ay m m) fl)
    have HKD : Hid (KeptBut (b + 1 + 1) W4 (((((W4.setCell ⟨b + 1 + 1, 0, none⟩ (.slice (some ⟨g0, 0, none⟩) nn nn)).setCell ⟨b + 1 + 1, 1, none⟩ (.slice (some ⟨g1, 0, none⟩) nn nn)).setCell ⟨b + 1 + 1, 2, none⟩ (.slice (some ⟨g2, 0, none⟩) nn nn)).setCell ⟨b + 1 + 1, 3, none⟩ (.slice ay m m)).setCell ⟨b + 1 + 1, 4, none⟩ (.bool fl))) := but_set (but_set (but_set (but_set (but_set (but_refl (b + 1 + 1) W4) _ _) _ _) _ _) _ _) _ _
    rw [hD] at HDD HKD ⊢
    clear hD a0 a1 a2 a3
    have a0 := ((HX0.out.keep (gtrans HG1.out (gtrans HG2.out HG3.out))).but HKD.out (fl_td_ne (HX0.out.keep (gtrans HG1.out (gtrans HG2.out HG3.out))) HD4.out)).cells.1.1
    have a1 := ((HX1.out.keep (gtrans HG2.out HG3.out)).but HKD.out (fl_td_ne (HX1.out.keep (gtrans HG2.out HG3.out)) HD4.out)).cells.1.1
    have a2 := ((HX2.out.keep HG3.out).but HKD.out (fl_td_ne (HX2.out.keep HG3.out) HD4.out)).cells.1.1
    have a3 := (HX3.out.but HKD.out (fl_td_ne HX3.out HD4.out)).cells.1.1
    have HRD := hide1 (HR4.out.but HKD.out (by omega))
    have HKwD : Hid (Kept w D) := KeptBut.up HKw4.out (by rw [HSZ.out]; omega) HKD.out
    have HND := hide1 (nullOk_but HN4.out HKD.out HD0.out.lt)
    have HFD := hide1 (firstOk_but HF4.out HKD.out HD1.out.lt)
    have HWD := hide1 (followOk_but HW4.out HKD.out HD2.out.lt)
    have HYD := hide1 (HY4.out.but HKD.out HD3.out.lt)
    have L0 := hide1 HR0.out.lt
    have L1 := hide1 HR1.out.lt
    have L2 := hide1 HR2.out.lt
    have L3 := hide1 HR3.out.lt
    clear hfl
    obtain ⟨⟨d0, d1, d2, d3, d4⟩, _⟩ := HDD.out.cells
    obtain ⟨⟨r0, r1, r2, r3, r4⟩, z0, z1, z2, z3, z4⟩ := HRD.out.cells
    have HFIN : Hid (ye = 0 ∧ m = nn ∧ fl = false ∨ ye = 6 ∧ m = 0 ∧ fl = true) := by
      have h := HFL.out
      rcases HOR.out with ⟨h1, h2⟩ | ⟨h1, h2⟩
      · exact .inl ⟨h1, h2, by rw [← h, h1]; rfl⟩
      · exact .inr ⟨h1, h2, by rw [← h, h1]; rfl⟩
    have HBK : Hid (KeptBut (b + 1) D (((((D.setCell ⟨b + 1, 0, none⟩ (.slice (some ⟨g0, 0, none⟩) nn nn)).setCell ⟨b + 1, 1, none⟩ (.slice (some ⟨g1, 0, none⟩) nn nn)).setCell ⟨b + 1, 2, none⟩ (.slice (some ⟨g2, 0, none⟩) nn nn)).setCell ⟨b + 1, 3, none⟩ (.slice ay m m)).setCell ⟨b + 1, 4, none⟩ (.bool fl))) := but_set (but_set (but_set (but_set (but_set (but_refl (b + 1) D) _ _) _ _) _ _) _ _) _ _
    have HEND : Hid (ToldR lex ps nn nl st w (.returned (.tuple #[.agg #[.slice (some ⟨g0, 0, none⟩) nn nn, .slice (some ⟨g1, 0, none⟩) nn nn, .slice (some ⟨g2, 0, none⟩) nn nn, .slice ay m m, .bool fl], .bool true, .bool true])) (((((D.setCell ⟨b + 1, 0, none⟩ (.slice (some ⟨g0, 0, none⟩) nn nn)).setCell ⟨b + 1, 1, none⟩ (.slice (some ⟨g1, 0, none⟩) nn nn)).setCell ⟨b + 1, 2, none⟩ (.slice (some ⟨g2, 0, none⟩) nn nn)).setCell ⟨b + 1, 3, none⟩ (.slice ay m m)).setCell ⟨b + 1, 4, none⟩ (.bool fl))) := by
      refine ⟨(0, 0), HQ0.out, KeptBut.up HKwD.out (by rw [HSZ.out]; omega) HBK.out, .inr ⟨rfl, g0, g1, g2, ay, m, (ye, ya), ?_, nullOk_down (nullOk_but HND.out HBK.out L0.out) HKw0.out.size, firstOk_down (firstOk_but HFD.out HBK.out L1.out) HKw1.out.size, followOk_down (followOk_but HWD.out HBK.out L2.out) HKw2.out.size, (HYD.out.but HBK.out L3.out).down HKw3.out.size, ?_⟩⟩
      · show _ = Ending.returned (.tuple #[.agg #[_, _, _, _, .bool (ye == 6)], _, _])
        rw [HFL.out]
      · exact HOR.out
    rcases HFIN.out with ⟨rfl, rfl, rfl⟩ | ⟨rfl, rfl, rfl⟩
    · go_wp2_with fail
      refine bodyPost_ret (results_row_tmp2 rfl _ _ (b + 1) 30 _ (0, 0) _ rfl (HRD.out.fill _ _ _ _ _) Tryd.underlying30 rfl (td_size _ _ _ _ _)) rfl ?_
      exact HEND.out
    · go_wp2_with fail
      refine bodyPost_ret (results_row_tmp2 rfl _ _ (b + 1) 30 _ (0, 0) _ rfl (HRD.out.fill _ _ _ _ _) Tryd.underlying30 rfl (td_size _ _ _ _ _)) rfl ?_
      exact HEND.out
  · have b0 : (xe != 0) = true := by simpa using hx0
    have HNX : Hid (xe ≠ 0) := hx0
    obtain ⟨⟨d0, d1, d2, d3, d4⟩, _⟩ := HD0.out.cells
    obtain ⟨⟨r0, r1, r2, r3, r4⟩, z0, z1, z2, z3, z4⟩ := HR0.out.cells
    clear hx0
    go_wp2_with fail
    refine bodyPost_ret (results_row_tmp2 rfl _ _ (b + 1) 30 _ (0, 0) _ rfl (HR0.out.fill (.slice none 0 0) (.slice none 0 0) (.slice none 0 0) (.slice none 0 0) false) Tryd.underlying30 rfl (td_size _ _ _ _ _)) rfl ?_
    have HBK : Hid (KeptBut (b + 1) W0 (((((W0.setCell ⟨b + 1, 0, none⟩ (.slice none 0 0)).setCell ⟨b + 1, 1, none⟩ (.slice none 0 0)).setCell ⟨b + 1, 2, none⟩ (.slice none 0 0)).setCell ⟨b + 1, 3, none⟩ (.slice none 0 0)).setCell ⟨b + 1, 4, none⟩ (.bool false))) := but_set (but_set (but_set (but_set (but_set (but_refl (b + 1) W0) _ _) _ _) _ _) _ _) _ _
    exact ⟨(xe, xa), HQ6.out, KeptBut.up HKw0.out (by rw [HSZ.out]; omega) HBK.out, .inl ⟨HNX.out, rfl⟩⟩

end Ex
end Go.Proofs.YtggodknnfpegmaaDoor
