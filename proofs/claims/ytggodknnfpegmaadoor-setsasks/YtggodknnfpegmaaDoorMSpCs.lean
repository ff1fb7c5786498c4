import Derived.Test.YtggodknnfpegmaaDoorMSpRg
namespace Go.Proofs.YtggodknnfpegmaaDoor
open Go.RowKit
attribute [local go_sem] Oper.semAt_some
namespace Ex

set_option linter.unusedSimpArgs false in
set_option maxRecDepth 100000 in
set_option maxHeartbeats 4000000 in
theorem indexProd_is (f : Nat) (bs : Array Value) (P : ProdM → Bool) (ar : Option Addr) (nr cr : Nat) (row : List ProdM) (hrow : row.length = nr) (w : World) (hr : ProdsAt w (.slice ar nr cr) row)
    (hf : ∀ x ∈ row, ∀ v wr, RightAt wr v x.2 → Calls Tryd.prog f (#[.agg #[.int .i64 x.1, v]] ++ bs) wr fun e w' => e = .returned (.bool (P x)) ∧ Kept wr w')
    (ef : ∀ args w, (callFunc f args).run Tryd.prog w = .ok (.enter f args) w) :
    Calls Tryd.prog 101 #[.slice ar nr cr, .func (.func f) #[] bs] w fun e w' => ∃ r : Int, e = .returned (.int .i64 r) ∧ IxIs P row r ∧ Kept w w' := by
  have HR := hide1 hr
  have HROW := hide1 hrow
  have HF := hide1 hf
  obtain ⟨_, _, e1, hc, hn⟩ := hr.len
  simp only [Value.slice.injEq] at e1
  obtain ⟨rfl, en, rfl⟩ := e1
  clear en
  rw [hrow] at hc hn
  have gn : (nr : Int) ≤ 17592186044416 := by omega
  clear hr hrow hf
  go_enter Tryd.func101, Tryd.ntmps101
  go_wp2_with fail
  go_loopw [8] (IxR P row w) (fun i _ => nr - (intOf i).toNat)
  case atStart => exact ⟨0, rfl, Nat.zero_le _, rfl, Kept.refl w⟩
  case round =>
    obtain ⟨j, rfl, hj, HA, HKr⟩ := hrel
    rw [HROW.out] at hj
    by_cases hlt : (j : Int) < (nr : Int)
    · obtain ⟨x, hx⟩ : ∃ x, row[j]? = some x := ⟨_, List.getElem?_eq_getElem (by have := HROW.out; omega)⟩
      obtain ⟨cb, ob, cs, ea, hcb, hlen, hcell, v', hcs, hrt⟩ := SliceOf.el (HR.out.keep HKr.out) hx
      subst ea hcs
      have k0 := hcell 0 _ rfl
      have k1 := hcell 1 _ rfl
      have k0 : wr.cell? ⟨cb, ob + j * 2, none⟩ = some (.int .i64 x.1) := k0
      have HX := hide1 hx
      have HC := hide1 (HF.out x (List.mem_of_getElem? hx) v' wr hrt)
      have gjc : (j : Int) < (cr : Int) := by omega
      obtain ⟨kd, nn⟩ := x
      have hef := ef
      obtain ⟨a2, c2, rfl, _, _⟩ := hrt.len
      clear hx hcell hrt
      have HA2 : Hid (∀ b, P (kd, nn) = b → (row.take (j + 1)).any P = b) := by
        intro b hb
        rw [List.take_add_one, HX.out, List.any_append, HA.out]
        simpa using hb
      cases hp : P (kd, nn) with
      | true =>
        rw [hp] at HC
        have HB := hide1 (HA2.out true hp)
        clear hp HA2
        go_wp2_with fail
        refine HC.out.mono ?_
        rintro e w6 ⟨rfl, hk6⟩
        have HK6 := hide1 (gtrans HKr.out hk6)
        clear hk6
        go_wp2_with fail
        go_ret
        refine ⟨(j : Int), rfl, .inr ⟨by omega, by omega, ?_⟩, HK6.out⟩
        rw [← List.take_append_drop (j + 1) row, List.any_append, HB.out]
        rfl
      | false =>
        rw [hp] at HC
        have HB := hide1 (HA2.out false hp)
        clear hp HA2
        go_wp2_with fail
        refine HC.out.mono ?_
        rintro e w6 ⟨rfl, hk6⟩
        have HK6 := hide1 (gtrans HKr.out hk6)
        clear hk6
        go_wp2_with fail
        go_roundw
        case rel => exact ⟨j + 1, by go_num, by rw [HROW.out]; omega, HB, HK6⟩
        case measure => simp [intOf]; omega
    · go_wp2_with fail
      go_ret
      refine ⟨-1, rfl, .inl ⟨rfl, ?_⟩, HKr.out⟩
      rw [← HA.out, List.take_of_length_le (by have := HROW.out; omega)]
set_option linter.unusedSimpArgs false in
set_option maxRecDepth 100000 in
set_option maxHeartbeats 4000000 in
theorem containsProd_is (f : Nat) (bs : Array Value) (P : ProdM → Bool) (ar : Option Addr) (nr cr : Nat) (row : List ProdM) (hrow : row.length = nr) (b : Bool) (hb : row.any P = b) (w : World) (hr : ProdsAt w (.slice ar nr cr) row)
    (hf : ∀ x ∈ row, ∀ v wr, RightAt wr v x.2 → Calls Tryd.prog f (#[.agg #[.int .i64 x.1, v]] ++ bs) wr fun e w' => e = .returned (.bool (P x)) ∧ Kept wr w')
    (ef : ∀ args w, (callFunc f args).run Tryd.prog w = .ok (.enter f args) w) :
    Calls Tryd.prog 90 #[.slice ar nr cr, .func (.func f) #[] bs] w fun e w' => e = .returned (.bool b) ∧ Kept w w' := by
  have HI := hide1 (indexProd_is f bs P ar nr cr row hrow w hr hf ef)
  have HB := hide1 hb
  clear hr hf hrow hb
  go_enter Tryd.func90, Tryd.ntmps90
  go_wp2_with (go_at_call 101; refine HI.out.mono ?_; rintro e w6 ⟨r, rfl, hr6, hk6⟩; have HR6 := hide1 hr6; have HK6 := hide1 hk6; clear hr6 hk6)
  go_ret
  refine ⟨?_, HK6.out⟩
  have e : decide (0 ≤ r) = b := by
    rcases HR6.out with ⟨h1, h2⟩ | ⟨h1, _, h2⟩
    · rw [← HB.out, h2, h1]; rfl
    · rw [← HB.out, h2]; simpa using h1
  rw [← e]
  rfl

set_option linter.unusedSimpArgs false in
set_option maxRecDepth 100000 in
set_option maxHeartbeats 4000000 in
theorem long1_is (l : Int) (row : List SymM) (v : Value) (w : World) (hr : RightAt w v row) : Calls Tryd.prog 91 #[.agg #[.int .i64 l, v]] w fun e w' => e = .returned (.bool (decide (16 < row.length))) ∧ Kept w w' := by
  obtain ⟨a, c, rfl, hc, hn⟩ := hr.len
  obtain ⟨n, hn2⟩ : ∃ n, row.length = n := ⟨_, rfl⟩
  rw [hn2] at hc hn ⊢
  have gn : (n : Int) ≤ 17592186044416 := by omega
  have e : decide (16 < n) = decide ((16 : Int) < (n : Int)) := by rw [decide_eq_decide]; omega
  rw [e]
  clear e hr hn2
  have HK1 : Hid (Kept w (w.alloc (.cells #[.int .i64 l, .slice a n c] 40))) := (Kept.refl w).alloc _ _
  obtain ⟨p0, p1⟩ := (PBox.new w (.int .i64 l) (.slice a n c)).cells
  go_enter Tryd.func91, Tryd.ntmps91
  go_wp2
  go_ret
  exact ⟨rfl, HK1.out⟩
/-- Is a spec past a bound? -/
def longB (nl nn : Nat) (ps : List ProdM) : Bool := decide (64 < nl) || decide (128 < nn) || decide (512 < ps.length) || ps.any (fun p => decide (16 < p.2.length))
def LongQ (nl nn : Nat) (ps : List ProdM) (x : Int × Int) : Prop := x = (if longB nl nn ps then 2 else 0, 0)
set_option linter.unusedSimpArgs false in
set_option maxRecDepth 100000 in
set_option maxHeartbeats 4000000 in
theorem checkSizes_is (ps : List ProdM) (al an ap : Option Addr) (nl cl nn cn np cp : Nat) (x2 : Value) (w : World) (hnl : nl ≤ 17592186044416) (hnn : nn ≤ 17592186044416) (hps : ps.length = np) (hp : ProdsAt w (.slice ap np cp) ps) :
    Calls Tryd.prog 64 #[.agg #[.slice al nl cl, .slice an nn cn, x2, .slice ap np cp]] w (FaultR (LongQ nl nn ps) w) := by
  obtain ⟨h1, h2, h3⟩ := chk_start w (.slice al nl cl) (.slice an nn cn) x2 (.slice ap np cp)
  have HB := hide1 h1
  have HF := hide1 h2
  have HK := hide1 h3
  have HP := hide1 hp
  have HPS := hide1 hps
  obtain ⟨_, _, e1, hcl, hn⟩ := hp.len
  simp only [Value.slice.injEq] at e1
  obtain ⟨rfl, en, rfl⟩ := e1
  clear en
  rw [hps] at hcl hn
  have gn : (nn : Int) ≤ 17592186044416 := by omega
  have gl : (nl : Int) ≤ 17592186044416 := by omega
  have gp : (np : Int) ≤ 17592186044416 := by omega
  clear h1 h2 h3 hp hps
  go_enter Tryd.func64, Tryd.ntmps64
  go_upto_region 1 with fail
  obtain ⟨W, hW⟩ : ∃ W, (w.alloc (.cells #[.slice al nl cl, .slice an nn cn, x2, .slice ap np cp] 26)).alloc (.cells #[.int .i64 0, .int .i64 0, .string ⟨#[]⟩] 44) = W := ⟨_, rfl⟩
  rw [hW] at HB HF HK ⊢
  clear hW
  obtain ⟨b, hb⟩ : ∃ b, w.heap.size = b := ⟨_, rfl⟩
  rw [hb] at HB HF ⊢
  have HSZ := hide1 hb
  clear hb
  obtain ⟨s0, s1, s2, s3⟩ := HB.out.facts
  obtain ⟨⟨f0, f1, f2⟩, z0, z1, z2⟩ := HF.out.cells
  by_cases h1 : (64 : Int) < (nl : Int)
  · have HLB : Hid (longB nl nn ps = true) := by unfold longB; show _ = _; simp; omega
    go_wp2_with fail
    refine bodyPost_ret (results_cell_row rfl _ _ (b + 1) 44 _ (0, 0) _ rfl (HF.out.fill 2 0) Tryd.underlying44 rfl (fault_size _ _)) rfl ?_
    exact ⟨(2, 0), rfl, (by unfold LongQ; rw [HLB.out]; rfl), keepB (keepB (keepB HK.out (by rw [HSZ.out]; omega)) (by rw [HSZ.out]; omega)) (by rw [HSZ.out]; omega)⟩
  · by_cases h2 : (128 : Int) < (nn : Int)
    · have HLB : Hid (longB nl nn ps = true) := by unfold longB; show _ = _; simp; omega
      go_wp2_with fail
      refine bodyPost_ret (results_cell_row rfl _ _ (b + 1) 44 _ (0, 0) _ rfl (HF.out.fill 2 0) Tryd.underlying44 rfl (fault_size _ _)) rfl ?_
      exact ⟨(2, 0), rfl, (by unfold LongQ; rw [HLB.out]; rfl), keepB (keepB (keepB HK.out (by rw [HSZ.out]; omega)) (by rw [HSZ.out]; omega)) (by rw [HSZ.out]; omega)⟩
    · by_cases h3 : (512 : Int) < (np : Int)
      · have HLB : Hid (longB nl nn ps = true) := by have := HPS.out; unfold longB; show _ = _; simp; omega
        go_wp2_with fail
        refine bodyPost_ret (results_cell_row rfl _ _ (b + 1) 44 _ (0, 0) _ rfl (HF.out.fill 2 0) Tryd.underlying44 rfl (fault_size _ _)) rfl ?_
        exact ⟨(2, 0), rfl, (by unfold LongQ; rw [HLB.out]; rfl), keepB (keepB (keepB HK.out (by rw [HSZ.out]; omega)) (by rw [HSZ.out]; omega)) (by rw [HSZ.out]; omega)⟩
      · have HLB : Hid (longB nl nn ps = ps.any (fun p => decide (16 < p.2.length))) := by
          have := HPS.out
          unfold longB
          show _ = _
          rw [show decide (64 < nl) = false by simp; omega, show decide (128 < nn) = false by simp; omega, show decide (512 < ps.length) = false by simp; omega]
          rfl
        cases hany : ps.any (fun p => decide (16 < p.2.length)) with
        | true =>
          have HAN := hide1 hany
          clear hany f0 f1 f2 z0 z1 z2
          go_wp2_with (go_at_call 90; refine (containsProd_is 91 #[] (fun p => decide (16 < p.2.length)) ap np cp ps HPS.out true HAN.out _ (HP.out.keep HK.out) (fun x _ v wr hr => long1_is x.1 x.2 v wr hr) (enters_of Tryd.func91 (by kernel_rfl) rfl)).mono ?_; rintro e w6 ⟨rfl, hk6⟩; have HK6 := hide1 (gtrans HK.out hk6); have HF6 := hide1 (HF.out.keep hk6); obtain ⟨⟨f0, f1, f2⟩, z0, z1, z2⟩ := HF6.out.cells; clear hk6)
          refine bodyPost_ret (results_cell_row rfl _ _ (b + 1) 44 _ (0, 0) _ rfl (HF6.out.fill 2 0) Tryd.underlying44 rfl (fault_size _ _)) rfl ?_
          exact ⟨(2, 0), rfl, (by unfold LongQ; rw [HLB.out, HAN.out]; rfl), keepB (keepB (keepB HK6.out (by rw [HSZ.out]; omega)) (by rw [HSZ.out]; omega)) (by rw [HSZ.out]; omega)⟩
        | false =>
          have HAN := hide1 hany
          clear hany f0 f1 f2 z0 z1 z2
          go_wp2_with (go_at_call 90; refine (containsProd_is 91 #[] (fun p => decide (16 < p.2.length)) ap np cp ps HPS.out false HAN.out _ (HP.out.keep HK.out) (fun x _ v wr hr => long1_is x.1 x.2 v wr hr) (enters_of Tryd.func91 (by kernel_rfl) rfl)).mono ?_; rintro e w6 ⟨rfl, hk6⟩; have HK6 := hide1 (gtrans HK.out hk6); have HF6 := hide1 (HF.out.keep hk6); obtain ⟨⟨f0, f1, f2⟩, z0, z1, z2⟩ := HF6.out.cells; clear hk6)
          refine bodyPost_ret (results_cell_row rfl _ _ (b + 1) 44 _ (0, 0) _ rfl (HF6.out.fill 0 0) Tryd.underlying44 rfl (fault_size _ _)) rfl ?_
          exact ⟨(0, 0), rfl, (by unfold LongQ; rw [HLB.out, HAN.out]; rfl), keepB (keepB (keepB HK6.out (by rw [HSZ.out]; omega)) (by rw [HSZ.out]; omega)) (by rw [HSZ.out]; omega)⟩

end Ex
end Go.Proofs.YtggodknnfpegmaaDoor
namespace Go.Proofs.YtggodknnfpegmaaDoor
open Go.RowKit
attribute [local go_sem] Oper.semAt_some
namespace Ex

/-- The first production with a number that stands for nothing. -/
def placesF {k : Nat} (lex : List (LexM k)) (n2 : Nat) : Nat → List ProdM → Int × Int
  | _, [] => (0, 0)
  | i, p :: ps => if 0 ≤ p.1 ∧ p.1 < (n2 : Int) then (if (wrongP lex n2 p.2).2 = 0 then placesF lex n2 (i + 1) ps else ((wrongP lex n2 p.2).2, (i : Int))) else (70, (i : Int))
def placesP {k : Nat} (lex : List (LexM k)) (n2 : Nat) (st : Int) (ps : List ProdM) : Int × Int := if 0 ≤ st ∧ st < (n2 : Int) then placesF lex n2 0 ps else (70, -1)
def PlacesQ {k : Nat} (lex : List (LexM k)) (n2 : Nat) (st : Int) (ps : List ProdM) (x : Int × Int) : Prop := x = placesP lex n2 st ps
def PlI {k : Nat} (lex : List (LexM k)) (n2 : Nat) (ps : List ProdM) (X : Int × Int) (W : World) (vi : Value) (wr : World) : Prop := ∃ j : Nat, vi = .int .i64 (j : Int) ∧ j ≤ ps.length ∧ Hid (X = placesF lex n2 j (ps.drop j)) ∧ Hid (Kept W wr)
theorem in_b {x : Int} {n : Nat} (b : Bool) (h : (0 ≤ x ∧ x < (n : Int)) ↔ b = true) : (decide (0 ≤ x) && decide (x < (n : Int))) = b := by
  cases b with
  | true => have := h.2 rfl; simp [this.1, this.2]
  | false =>
    have hn : ¬ (0 ≤ x ∧ x < (n : Int)) := fun e => by simpa using h.1 e
    rw [Bool.and_eq_false_iff, decide_eq_false_iff_not, decide_eq_false_iff_not]
    omega
set_option linter.unusedSimpArgs false in
set_option maxRecDepth 100000 in
set_option maxHeartbeats 8000000 in
theorem checkPlaces_is (k : Nat) (lex : List (LexM k)) (ps : List ProdM) (al an ap : Option Addr) (nl cl nn cn np cp : Nat) (st : Int) (w : World) (hnn : nn ≤ 17592186044416) (hlex : lex.length = nl) (hps : ps.length = np) (hl : LexAt w k (.slice al nl cl) lex) (hp : ProdsAt w (.slice ap np cp) ps) :
    Calls Tryd.prog 65 #[.agg #[.slice al nl cl, .slice an nn cn, .int .i64 st, .slice ap np cp]] w (FaultR (PlacesQ lex nn st ps) w) := by
  obtain ⟨h1, h2, h3⟩ := chk_start w (.slice al nl cl) (.slice an nn cn) (.int .i64 st) (.slice ap np cp)
  have HB := hide1 h1
  have HF := hide1 h2
  have HK := hide1 h3
  have HP := hide1 hp
  have HPS := hide1 hps
  have HL := hide1 hl
  have HLEN := hide1 hlex
  obtain ⟨_, _, e1, hc, hn⟩ := hp.len
  simp only [Value.slice.injEq] at e1
  obtain ⟨rfl, en, rfl⟩ := e1
  clear en
  rw [hps] at hc hn
  have gn : (nn : Int) ≤ 17592186044416 := by omega
  have gp : (np : Int) ≤ 17592186044416 := by omega
  clear h1 h2 h3 hp hps hl hlex
  go_enter Tryd.func65, Tryd.ntmps65
  go_upto_region 1 with fail
  obtain ⟨W, hW⟩ : ∃ W, (w.alloc (.cells #[.slice al nl cl, .slice an nn cn, .int .i64 st, .slice ap np cp] 26)).alloc (.cells #[.int .i64 0, .int .i64 0, .string ⟨#[]⟩] 44) = W := ⟨_, rfl⟩
  rw [hW] at HB HF HK ⊢
  clear hW
  obtain ⟨b, hb⟩ : ∃ b, w.heap.size = b := ⟨_, rfl⟩
  rw [hb] at HB HF ⊢
  have HSZ := hide1 hb
  clear hb
  obtain ⟨s0, s1, s2, s3⟩ := HB.out.facts
  by_cases hst : 0 ≤ st ∧ st < (nn : Int)
  · have HW1 := hide1 (in_b true (by simpa using hst))
    have HX : Hid (placesP lex nn st ps = placesF lex nn 0 ps) := by show _ = _; unfold placesP; rw [if_pos hst]
    clear hst
    go_upto_region 3 with (go_at_call 70; refine (within_at st (nn : Int) true HW1.out _).mono ?_; rintro e w4 ⟨rfl, hw4⟩; replace hw4 := hw4.symm; subst hw4)
    go_wp2_with fail
    clear s0 s1 s2 s3
    go_loopw [18] (PlI lex nn ps (placesP lex nn st ps) W) (fun i _ => np - (intOf i).toNat)
    case atStart => exact ⟨0, rfl, Nat.zero_le _, HX, Kept.refl W⟩
    case round =>
      obtain ⟨j, rfl, hj, HJ, HKr⟩ := hrel
      rw [HPS.out] at hj
      by_cases hlt : (j : Int) < (np : Int)
      · obtain ⟨p, hp⟩ : ∃ p, ps[j]? = some p := ⟨_, List.getElem?_eq_getElem (by have := HPS.out; omega)⟩
        have HKw := hide1 (gtrans HK.out HKr.out)
        obtain ⟨cb, o2, cs, ea, hcb, hlen, hcell, v', hcs, hrt⟩ := SliceOf.el (HP.out.keep HKw.out) hp
        subst ea hcs
        have k0 : wr.cell? ⟨cb, o2 + j * 2, none⟩ = some (.int .i64 p.1) := hcell 0 _ rfl
        have k1 := hcell 1 _ rfl
        have gjc : (j : Int) < (cp : Int) := by omega
        have HD : Hid (ps.drop j = p :: ps.drop (j + 1)) := by
          obtain ⟨hj2, e⟩ := List.getElem?_eq_some_iff.1 hp
          show _ = _
          rw [List.drop_eq_getElem_cons hj2, e]
        obtain ⟨ar, cr, rfl, hcr, hnr⟩ := hrt.len
        obtain ⟨nr, hnr2⟩ : ∃ nr, p.2.length = nr := ⟨_, rfl⟩
        rw [hnr2] at hrt hcr hnr k1
        have HNR := hide1 hnr2
        have HRT := hide1 hrt
        obtain ⟨l, row⟩ := p
        dsimp only at k0 HNR HRT
        clear hp hcell hrt hnr2
        have HPB := hide1 (PBox.new wr (.int .i64 l) (.slice ar nr cr))
        have HK4 : Hid (Kept wr (wr.alloc (.cells #[.int .i64 l, .slice ar nr cr] 40))) := (Kept.refl wr).alloc _ _
        go_upto_region 6 with fail
        clear k0 k1
        obtain ⟨W4, hW4⟩ : ∃ W4, wr.alloc (.cells #[.int .i64 l, .slice ar nr cr] 40) = W4 := ⟨_, rfl⟩
        rw [hW4] at HPB HK4 ⊢
        clear hW4
        obtain ⟨pb, hpb⟩ : ∃ pb, wr.heap.size = pb := ⟨_, rfl⟩
        rw [hpb] at HPB ⊢
        clear hpb
        obtain ⟨p0, p1⟩ := HPB.out.cells
        have HK4w := hide1 (gtrans HKr.out HK4.out)
        obtain ⟨s0, s1, s2, s3⟩ := (HB.out.keep HK4w.out).facts
        have HF4 := hide1 (HF.out.keep HK4w.out)
        by_cases hin : 0 ≤ l ∧ l < (nn : Int)
        · have HW2 := hide1 (in_b true (by simpa using hin))
          obtain ⟨er, her⟩ : ∃ er, (wrongP lex nn row).2 = er := ⟨_, rfl⟩
          have HER := hide1 her
          have HJ2 : Hid (placesP lex nn st ps = if er = 0 then placesF lex nn (j + 1) (ps.drop (j + 1)) else (er, (j : Int))) := by
            show _ = _
            rw [HJ.out, HD.out]
            show (if 0 ≤ l ∧ l < (nn : Int) then (if (wrongP lex nn row).2 = 0 then _ else ((wrongP lex nn row).2, _)) else _) = _
            rw [if_pos hin, her]
          clear hin her
          go_upto_region 8 with (go_at_call 70; refine (within_at l (nn : Int) true HW2.out _).mono ?_; rintro e w5 ⟨rfl, hw5⟩; replace hw5 := hw5.symm; subst hw5)
          by_cases h0 : er = 0
          · have b0 : (er != 0) = false := by simp [h0]
            have HJ3 : Hid (placesP lex nn st ps = placesF lex nn (j + 1) (ps.drop (j + 1))) := by show _ = _; rw [HJ2.out, if_pos h0]
            clear h0
            go_wp2_with (go_at_call 69; refine (firstWrong_is k al an ar nl cl nn cn nr cr lex row HLEN.out HNR.out (by omega) _ st _ (HL.out.keep (gtrans HKw.out HK4.out)) (HRT.out.keep HK4.out)).mono ?_; rintro e w6 ⟨rfl, hk6⟩; rw [HER.out]; have HK6 := hide1 (gtrans HK4w.out hk6); clear hk6)
            go_roundw
            case rel => exact ⟨j + 1, by go_num, by rw [HPS.out]; omega, HJ3, HK6⟩
            case measure => simp [intOf]; omega
          · have b0 : (er != 0) = true := by simpa using h0
            have HJ3 : Hid (placesP lex nn st ps = (er, (j : Int))) := by show _ = _; rw [HJ2.out, if_neg h0]
            clear h0
            go_wp2_with (go_at_call 69; refine (firstWrong_is k al an ar nl cl nn cn nr cr lex row HLEN.out HNR.out (by omega) _ st _ (HL.out.keep (gtrans HKw.out HK4.out)) (HRT.out.keep HK4.out)).mono ?_; rintro e w6 ⟨rfl, hk6⟩; rw [HER.out]; have HK6 := hide1 (gtrans HK4w.out hk6); have HF6 := hide1 (HF4.out.keep hk6); obtain ⟨⟨f0, f1, f2⟩, z0, z1, z2⟩ := HF6.out.cells; clear hk6)
            refine bodyPost_ret (results_cell_row rfl _ _ (b + 1) 44 _ (0, 0) _ rfl (HF6.out.fill er (j : Int)) Tryd.underlying44 rfl (fault_size _ _)) rfl ?_
            exact ⟨(er, (j : Int)), rfl, HJ3.out.symm, keepB (keepB (keepB (gtrans HK.out HK6.out) (by rw [HSZ.out]; omega)) (by rw [HSZ.out]; omega)) (by rw [HSZ.out]; omega)⟩
        · have HW2 := hide1 (in_b false (by simpa using hin))
          have HJ3 : Hid (placesP lex nn st ps = (70, (j : Int))) := by
            show _ = _
            rw [HJ.out, HD.out]
            show (if 0 ≤ l ∧ l < (nn : Int) then _ else _) = _
            rw [if_neg hin]
          clear hin
          obtain ⟨⟨f0, f1, f2⟩, z0, z1, z2⟩ := HF4.out.cells
          go_wp2_with (go_at_call 70; refine (within_at l (nn : Int) false HW2.out _).mono ?_; rintro e w5 ⟨rfl, hw5⟩; replace hw5 := hw5.symm; subst hw5)
          refine bodyPost_ret (results_cell_row rfl _ _ (b + 1) 44 _ (0, 0) _ rfl (HF4.out.fill 70 (j : Int)) Tryd.underlying44 rfl (fault_size _ _)) rfl ?_
          exact ⟨(70, (j : Int)), rfl, HJ3.out.symm, keepB (keepB (keepB (gtrans HK.out HK4w.out) (by rw [HSZ.out]; omega)) (by rw [HSZ.out]; omega)) (by rw [HSZ.out]; omega)⟩
      · have HJ3 : Hid (placesP lex nn st ps = (0, 0)) := by
          show _ = _
          rw [HJ.out, List.drop_of_length_le (by have := HPS.out; omega)]
          rfl
        have HF4 := hide1 (HF.out.keep HKr.out)
        obtain ⟨⟨f0, f1, f2⟩, z0, z1, z2⟩ := HF4.out.cells
        go_wp2_with fail
        refine bodyPost_ret (results_cell_row rfl _ _ (b + 1) 44 _ (0, 0) _ rfl (HF4.out.fill 0 0) Tryd.underlying44 rfl (fault_size _ _)) rfl ?_
        exact ⟨(0, 0), rfl, HJ3.out.symm, keepB (keepB (keepB (gtrans HK.out HKr.out) (by rw [HSZ.out]; omega)) (by rw [HSZ.out]; omega)) (by rw [HSZ.out]; omega)⟩
  · have HW1 := hide1 (in_b false (by simpa using hst))
    have HX : Hid (placesP lex nn st ps = (70, -1)) := by show _ = _; unfold placesP; rw [if_neg hst]
    clear hst
    obtain ⟨⟨f0, f1, f2⟩, z0, z1, z2⟩ := HF.out.cells
    go_wp2_with (go_at_call 70; refine (within_at st (nn : Int) false HW1.out _).mono ?_; rintro e w4 ⟨rfl, hw4⟩; replace hw4 := hw4.symm; subst hw4)
    refine bodyPost_ret (results_cell_row rfl _ _ (b + 1) 44 _ (0, 0) _ rfl (HF.out.fill 70 (-1)) Tryd.underlying44 rfl (fault_size _ _)) rfl ?_
    exact ⟨(70, -1), rfl, HX.out.symm, keepB (keepB (keepB HK.out (by rw [HSZ.out]; omega)) (by rw [HSZ.out]; omega)) (by rw [HSZ.out]; omega)⟩

end Ex
end Go.Proofs.YtggodknnfpegmaaDoor
