import Derived.Test.YtooelfjceehmmaaDoorMSpLd2
import Derived.Deep.QuietTactic
import Derived.BigQuiet
namespace Go.Proofs.YtooelfjceehmmaaDoor
open Go.RowKit
attribute [local go_sem] Oper.semAt_some
namespace Ex

def KpI (n : Nat) (W : World) (vo vi : Value) (wr : World) : Prop := ∃ j : Nat, vo = .bool true ∧ vi = .int .i64 (j : Int) ∧ j ≤ n ∧ Hid (Kept W wr)
set_option linter.unusedSimpArgs false in
set_option maxRecDepth 100000 in
set_option maxHeartbeats 8000000 in
theorem keptS_is (k : Nat) (lex : List (LexM k)) (names : List ByteArray) (ps : List ProdM) (g gn gq : Nat) (al an ap : Option Addr) (nl cl nn cn np cp : Nat) (st : Int) (w : World) (hlex : lex.length = nl) (hnames : names.length = nn) (hps : ps.length = np) (hl44 : nl ≤ 1600000000000) (hn44 : nn ≤ 8796093022207) (hp44 : np ≤ 4398046511103) (hrow : ∀ p ∈ ps, p.2.length ≤ 8796093022207) (hL : LentAt w lex names ps g gn gq) (hl : LexAt w k (.slice al nl cl) lex) (hn : NamesAt w (.slice an nn cn) names) (hp : ProdsAt w (.slice ap np cp) ps) :
    Calls Tryd.prog 18 #[.agg #[.slice (some ⟨g, 0, none⟩) nl (nl + 1), .slice (some ⟨gn, 0, none⟩) nn (nn + 1), .int .i64 st, .slice (some ⟨gq, 0, none⟩) np (np + 1)], .agg #[.slice al nl cl, .slice an nn cn, .int .i64 st, .slice ap np cp]] w fun e w' => e = .returned (.bool true) ∧ Kept w w' := by
  have gl : (nl : Int) ≤ 1600000000000 := by omega
  have gn' : (nn : Int) ≤ 8796093022207 := by omega
  have gp : (np : Int) ≤ 4398046511103 := by omega
  obtain ⟨h1, h2, h3, h4⟩ := two_sbox w (.slice (some ⟨g, 0, none⟩) nl (nl + 1)) (.slice (some ⟨gn, 0, none⟩) nn (nn + 1)) (.int .i64 st) (.slice (some ⟨gq, 0, none⟩) np (np + 1)) (.slice al nl cl) (.slice an nn cn) (.int .i64 st) (.slice ap np cp)
  have HB := hide1 h1
  have HR := hide1 h2
  have HK := hide1 h3
  have HL := hide1 hl
  have HN := hide1 hn
  have HP := hide1 hp
  have HLT := hide1 hL
  have HLEN := hide1 hlex
  have HNAM := hide1 hnames
  have HPS := hide1 hps
  have HROW := hide1 hrow
  obtain ⟨_, _, e0, hcl, _⟩ := hl.len
  simp only [Value.slice.injEq] at e0
  obtain ⟨rfl, en, rfl⟩ := e0
  clear en
  rw [hlex] at hcl
  obtain ⟨_, _, e0, hcn, _⟩ := SliceOf.len hn
  simp only [Value.slice.injEq] at e0
  obtain ⟨rfl, en, rfl⟩ := e0
  clear en
  rw [hnames] at hcn
  obtain ⟨_, _, e0, hcp, _⟩ := hp.len
  simp only [Value.slice.injEq] at e0
  obtain ⟨rfl, en, rfl⟩ := e0
  clear en
  rw [hps] at hcp
  have hm1 := (hL.keep h3).lmark
  have hm2 := (hL.keep h3).nmark
  have hm3 := (hL.keep h3).pmark
  rw [hlex] at hm1
  rw [hnames] at hm2
  rw [hps] at hm3
  have HM1 := hide1 hm1
  have HM2 := hide1 hm2
  have HM3 := hide1 hm3
  clear h1 h2 h3 h4 hl hn hp hlex hnames hps hL hm1 hm2 hm3
  go_enter Tryd.func18, Tryd.ntmps18
  go_upto_region 1 with fail
  obtain ⟨W, hW⟩ : ∃ W, (w.alloc (.cells #[.slice (some ⟨g, 0, none⟩) nl (nl + 1), .slice (some ⟨gn, 0, none⟩) nn (nn + 1), .int .i64 st, .slice (some ⟨gq, 0, none⟩) np (np + 1)] 26)).alloc (.cells #[.slice al nl cl, .slice an nn cn, .int .i64 st, .slice ap np cp] 26) = W := ⟨_, rfl⟩
  rw [hW] at HB HR HK HM1 HM2 HM3 ⊢
  clear hW
  obtain ⟨b, hb⟩ : ∃ b, w.heap.size = b := ⟨_, rfl⟩
  rw [hb] at HB HR ⊢
  clear hb
  obtain ⟨s0, s1, s2, s3⟩ := HB.out.facts
  obtain ⟨r0, r1, r2, r3⟩ := HR.out.facts
  have t1 := HM1.out
  have t2 := HM2.out
  have t3 := HM3.out
  have x1 : (nl : Int) < (nl : Int) + 1 := by omega
  have x2 : (nn : Int) < (nn : Int) + 1 := by omega
  have x3 : (np : Int) < (np : Int) + 1 := by omega
  go_upto_region 7 with fail
  clear s0 s1 s2 s3 r0 r1 r2 r3 t1 t2 t3 x1 x2 x3
  have HLW := hide1 (HLT.out.keep HK.out)
  go_wp2_with fail
  go_loopw [8, 9] (KpI nl W) (fun _ i _ => nl - (intOf i).toNat)
  case atStart => exact ⟨0, rfl, rfl, Nat.zero_le _, Kept.refl W⟩
  case round =>
    obtain ⟨j, rfl, rfl, hj, HKr⟩ := hrel
    obtain ⟨r0, r1, r2, r3⟩ := (HR.out.keep HKr.out).facts
    by_cases hlt : (j : Int) < (nl : Int)
    · obtain ⟨l, hl⟩ : ∃ l, lex[j]? = some l := ⟨_, List.getElem?_eq_getElem (by have := HLEN.out; omega)⟩
      obtain ⟨cb, o2, cs, ea, hcb, hlen, hcell, v', hcs, hns, hkd⟩ := SliceOf.el HL.out hl
      subst ea hcs
      have hkw := gtrans HK.out HKr.out
      obtain ⟨vm, c0, c1, c2, c3, c4, c5, c6, c7, c8⟩ := (HLW.out.keep HKr.out).rules j l (by have := HLEN.out; omega) hl
      obtain ⟨nm, tv, p⟩ := l
      have HKE : Hid (∀ w', Kept wr w' → Calls Tryd.prog 42 #[.agg #[.int .i64 (kind p), .int .i64 (from_ p), .int .i64 (to_ p), .int .i64 (min_ p), .int .i64 (max_ p), vm], .agg #[.int .i64 (kind p), .int .i64 (from_ p), .int .i64 (to_ p), .int .i64 (min_ p), .int .i64 (max_ p), v']] w' fun e w2 => e = .returned (.bool true) ∧ Kept w' w2) := fun w' hk' => KeptExpr_is (fun _ => True) (fun _ => True) (fun _ => True) k p v' vm w' (KidsAt.mono ((gtrans hkw hk').holds _) (fun _ _ => trivial) _ _ _ hkd) (KidsAt.mono (hk'.holds _) (fun _ _ => trivial) _ _ _ c8.1) (fun hb => MarkAt.mono (hk'.holds _) (fun _ _ => trivial) _ _ _ (c8.2 hb))
      have q0 := kcellS (grown_cell hkw (hcell 0 (.string nm) rfl))
      have q1 := kcellS (grown_cell hkw (hcell 1 (.bool tv) rfl))
      have q2 := kcellS (grown_cell hkw (hcell 2 (.int .i64 (kind p)) rfl))
      have q3 := kcellS (grown_cell hkw (hcell 3 (.int .i64 (from_ p)) rfl))
      have q4 := kcellS (grown_cell hkw (hcell 4 (.int .i64 (to_ p)) rfl))
      have q5 := kcellS (grown_cell hkw (hcell 5 (.int .i64 (min_ p)) rfl))
      have q6 := kcellS (grown_cell hkw (hcell 6 (.int .i64 (max_ p)) rfl))
      have q7 := kcellS (grown_cell hkw (hcell 7 v' rfl))
      have d0 := kcellS c0
      have d1 := kcellS c1
      have d2 := kcellS c2
      have d3 := kcellS c3
      have d4 := kcellS c4
      have d5 := kcellS c5
      have d6 := kcellS c6
      have d7 := kcellS c7
      simp only [Nat.add_zero] at q0
      dsimp only at d0 d1 d2 d3 d4 d5 d6
      clear c0 c1 c2 c3 c4 c5 c6 c7 c8 hcell hkd hl hns hkw
      obtain ⟨kd, hkd⟩ : ∃ kd, kind p = kd := ⟨_, rfl⟩
      obtain ⟨fr, hfr⟩ : ∃ fr, from_ p = fr := ⟨_, rfl⟩
      obtain ⟨tt, hto⟩ : ∃ tt, to_ p = tt := ⟨_, rfl⟩
      obtain ⟨mn, hmn⟩ : ∃ mn, min_ p = mn := ⟨_, rfl⟩
      obtain ⟨mx, hmx⟩ : ∃ mx, max_ p = mx := ⟨_, rfl⟩
      rw [hkd, hfr, hto, hmn, hmx] at HKE
      rw [hkd] at q2 d2
      rw [hfr] at q3 d3
      rw [hto] at q4 d4
      rw [hmn] at q5 d5
      rw [hmx] at q6 d6
      clear hkd hfr hto hmn hmx
      have gjc : (j : Int) < (cl : Int) := by omega
      have gj1 : (j : Int) < (nl : Int) + 1 := by omega
      have m0 := kcellS r0
      have hkr : Kept wr wr := Kept.refl wr
      go_upto_region 10 with fail
      clear r0 r1 r2 r3
      go_region_held3 (fun w' => Kept wr w') (first | assumption | exact Kept.refl _ | exact drew_kept _)
        ((go_at_call 42; refine (HKE.out _ (by first | assumption | exact drew_kept _ | exact Kept.refl _)).mono ?_; rintro e w3 ⟨rfl, hw3⟩; have k9 : Kept wr w3 := gtrans (by first | assumption | exact drew_kept _ | exact Kept.refl _) hw3; clear hw3))
      have HK9 := hide1 (gtrans HKr.out k9)
      clear q0 q1 q2 q3 q4 q5 q6 q7 d0 d1 d2 d3 d4 d5 d6 d7 m0 hkr k9 HKE
      go_wp2_with fail
      go_roundw
      case rel => exact ⟨j + 1, rfl, by go_num, by omega, HK9⟩
      case measure => simp [intOf]; omega
    · go_wp2_with fail
      clear r0 r1 r2 r3 hlt hj
      go_loopw [8, 10] (KpI nn W) (fun _ i _ => nn - (intOf i).toNat)
      case atStart => exact ⟨0, rfl, rfl, Nat.zero_le _, HKr⟩
      case round =>
        obtain ⟨m, rfl, rfl, hm, HKm⟩ := hrel
        obtain ⟨r0, r1, r2, r3⟩ := (HR.out.keep HKm.out).facts
        by_cases hlt : (m : Int) < (nn : Int)
        · obtain ⟨nm, hnm⟩ : ∃ nm, names[m]? = some nm := ⟨_, List.getElem?_eq_getElem (by have := HNAM.out; omega)⟩
          obtain ⟨cb, o2, cs, ea, hcb, hlen, hcell, hcs, _⟩ := SliceOf.el (HN.out.keep (gtrans HK.out HKm.out)) hnm
          subst ea hcs
          obtain ⟨cs2, _, hcell2, hcs2, _⟩ := (HLW.out.keep HKm.out).nam m nm hnm
          subst hcs2
          have q0 : wr.cell? ⟨cb, o2 + m, none⟩ = some (.string nm) := by have := hcell 0 _ rfl; simpa using this
          have d0 : wr.cell? ⟨gn, m, none⟩ = some (.string nm) := by have := hcell2 0 _ rfl; simpa using this
          have gmc : (m : Int) < (cn : Int) := by omega
          have gm1 : (m : Int) < (nn : Int) + 1 := by omega
          clear hnm hcell hcell2
          go_upto_region 14 with fail
          go_quiet (fail)
          have HK9 : Hid (Kept W (wr.drewN nq)) := gtrans HKm.out (drewN_kept _ _)
          obtain ⟨w9, hw9⟩ : ∃ w9, wr.drewN nq = w9 := ⟨_, rfl⟩
          rw [hw9] at HK9 ⊢
          clear hw9 q0 d0 r0 r1 r2 r3
          go_wp2_with fail
          go_roundw
          case rel => exact ⟨m + 1, rfl, by go_num, by omega, HK9⟩
          case measure => simp [intOf]; omega
        · go_wp2_with fail
          clear r0 r1 r2 r3 hlt hm
          go_loopw [8, 11] (KpI np W) (fun _ i _ => np - (intOf i).toNat)
          case atStart => exact ⟨0, rfl, rfl, Nat.zero_le _, HKm⟩
          case round =>
            obtain ⟨q, rfl, rfl, hq, HKq⟩ := hrel
            obtain ⟨r0, r1, r2, r3⟩ := (HR.out.keep HKq.out).facts
            by_cases hlt : (q : Int) < (np : Int)
            · obtain ⟨p, hp⟩ : ∃ p, ps[q]? = some p := ⟨_, List.getElem?_eq_getElem (by have := HPS.out; omega)⟩
              obtain ⟨cb, o2, cs, ea, hcb, hlen, hcell, v', hcs, hrt⟩ := SliceOf.el (HP.out.keep (gtrans HK.out HKq.out)) hp
              subst ea hcs
              have k0 : wr.cell? ⟨cb, o2 + q * 2, none⟩ = some (.int .i64 p.1) := hcell 0 _ rfl
              have k1 := hcell 1 _ rfl
              have gqc : (q : Int) < (cp : Int) := by omega
              have gq1 : (q : Int) < (np : Int) + 1 := by omega
              have hr44 := HROW.out p (List.mem_of_getElem? hp)
              obtain ⟨gr, c0, c1, _, _, c4, c5⟩ := (HLW.out.keep HKq.out).prd q p (by have := HPS.out; omega) hp
              obtain ⟨ar, cr, rfl, hcr, hnr⟩ := hrt.len
              obtain ⟨nr, hnr2⟩ : ∃ nr, p.2.length = nr := ⟨_, rfl⟩
              rw [hnr2] at hrt hcr hnr k1 hr44 c1 c5
              have HNR := hide1 hnr2
              have HRT := hide1 hrt
              have HC0 := hide1 c0
              have HC1 := hide1 c1
              have HC4 := hide1 c4
              have HC5 := hide1 c5
              obtain ⟨l, hl⟩ : ∃ l, p.1 = l := ⟨_, rfl⟩
              rw [hl] at k0 HC0
              have gnr : (nr : Int) ≤ 8796093022207 := by omega
              have HPB := hide1 (PBox.new wr (.int .i64 l) (.slice ar nr cr))
              have HK12 : Hid (Kept wr (wr.alloc (.cells #[.int .i64 l, .slice ar nr cr] 40))) := (Kept.refl wr).alloc _ _
              clear hp hcell hrt hnr2 hl c0 c1 c4 c5 hr44
              go_upto_region 19 with fail
              clear k0 k1 r0 r1 r2 r3
              obtain ⟨W12, hW12⟩ : ∃ W12, wr.alloc (.cells #[.int .i64 l, .slice ar nr cr] 40) = W12 := ⟨_, rfl⟩
              rw [hW12] at HPB HK12 ⊢
              clear hW12
              obtain ⟨pb, hpb⟩ : ∃ pb, wr.heap.size = pb := ⟨_, rfl⟩
              rw [hpb] at HPB ⊢
              clear hpb
              obtain ⟨p0, p1⟩ := HPB.out.cells
              have c0 := grown_cell HK12.out HC0.out
              have c1 := grown_cell HK12.out HC1.out
              go_quiet (fail)
              clear p0 p1 c0 c1
              have HK13 : Hid (Kept W12 (W12.drewN nq)) := drewN_kept _ _
              obtain ⟨W13, hW13⟩ : ∃ W13, W12.drewN nq = W13 := ⟨_, rfl⟩
              rw [hW13] at HK13 ⊢
              clear hW13
              go_wp2_with fail
              go_loopw [8, 13] (KpI nr W13) (fun _ i _ => nr - (intOf i).toNat)
              case atStart => exact ⟨0, rfl, rfl, Nat.zero_le _, Kept.refl W13⟩
              case round =>
                obtain ⟨y, rfl, rfl, hy, HKy⟩ := hrel
                have HKy2 := hide1 (gtrans HK13.out HKy.out)
                have HKy3 := hide1 (gtrans HK12.out HKy2.out)
                obtain ⟨p0, p1⟩ := (HPB.out.keep HKy2.out).cells
                by_cases hly : (y : Int) < (nr : Int)
                · obtain ⟨x, hx⟩ : ∃ x, p.2[y]? = some x := ⟨_, List.getElem?_eq_getElem (by have := HNR.out; omega)⟩
                  obtain ⟨cr2, or2, cs2, ea2, hcb2, hlen2, hcell2, hcs2⟩ := SliceOf.el (HRT.out.keep HKy3.out) hx
                  have hcs2 : cs2 = [.int .i64 x.1, .int .i64 x.2] := hcs2
                  subst ea2 hcs2
                  have k0 : wr.cell? ⟨cr2, or2 + y * 2, none⟩ = some (.int .i64 x.1) := hcell2 0 _ rfl
                  have k1 : wr.cell? ⟨cr2, or2 + y * 2 + 1, none⟩ = some (.int .i64 x.2) := hcell2 1 _ rfl
                  obtain ⟨cs3, _, hcell3, hcs3⟩ := (HC4.out.keep HKy3.out) y x hx
                  have hcs3 : cs3 = [.int .i64 x.1, .int .i64 x.2] := hcs3
                  subst hcs3
                  have e0 : wr.cell? ⟨gr, y * 2, none⟩ = some (.int .i64 x.1) := hcell3 0 _ rfl
                  have e1 : wr.cell? ⟨gr, y * 2 + 1, none⟩ = some (.int .i64 x.2) := hcell3 1 _ rfl
                  have c1 := grown_cell HKy3.out HC1.out
                  have gyc : (y : Int) < (cr : Int) := by omega
                  obtain ⟨xk, xn⟩ := x
                  dsimp only at k0 k1 e0 e1
                  clear hx hcell2 hcell3
                  go_upto_region 23 with fail
                  go_quiet (fail)
                  clear p0 p1 k0 k1 e0 e1 c1
                  have HK14 : Hid (Kept W13 (wr.drewN nq)) := gtrans HKy.out (drewN_kept _ _)
                  obtain ⟨W14, hW14⟩ : ∃ W14, wr.drewN nq = W14 := ⟨_, rfl⟩
                  rw [hW14] at HK14 ⊢
                  clear hW14
                  go_wp2_with fail
                  go_roundw
                  case rel => exact ⟨y + 1, rfl, by go_num, by omega, HK14⟩
                  case measure => simp [intOf]; omega
                · have c1 := grown_cell HKy3.out HC1.out
                  have c5 := grown_cell HKy3.out HC5.out
                  have x1 : (nr : Int) < (nr : Int) + 1 := by omega
                  go_upto_region 24 with fail
                  go_quiet (fail)
                  clear p0 p1 c1 c5 x1
                  have HK14 : Hid (Kept W (wr.drewN nq)) := gtrans HKq.out (gtrans HKy3.out (drewN_kept _ _))
                  obtain ⟨W14, hW14⟩ : ∃ W14, wr.drewN nq = W14 := ⟨_, rfl⟩
                  rw [hW14] at HK14 ⊢
                  clear hW14
                  go_wp2_with fail
                  go_roundw
                  case rel => exact ⟨q + 1, rfl, by go_num, by omega, HK14⟩
                  case measure => simp [intOf]; omega
            · go_wp2_with fail
              go_ret
              exact ⟨rfl, gtrans HK.out HKq.out⟩

end Ex
end Go.Proofs.YtooelfjceehmmaaDoor
