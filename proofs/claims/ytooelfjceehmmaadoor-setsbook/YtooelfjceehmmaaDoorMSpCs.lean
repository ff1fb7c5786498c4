import Derived.Test.YtooelfjceehmmaaDoorMSpRg
namespace Go.Proofs.YtooelfjceehmmaaDoor
open Go.RowKit
attribute [local go_sem] Oper.semAt_some
namespace Ex

set_option linter.unusedSimpArgs false in
set_option maxRecDepth 100000 in
set_option maxHeartbeats 4000000 in
theorem indexProd_is (f : Nat) (bs : Array Value) (P : ProdM → Bool) (ar : Option Addr) (nr cr : Nat) (row : List ProdM) (hrow : row.length = nr) (w : World) (hr : ProdsAt w (.slice ar nr cr) row)
    (hf : ∀ x ∈ row, ∀ v wr, RightAt wr v x.2 → Calls Tryd.prog f (#[.agg #[.int .i64 x.1, v]] ++ bs) wr fun e w' => e = .returned (.bool (P x)) ∧ Kept wr w')
    (ef : ∀ args w, (callFunc f args).run Tryd.prog w = .ok (.enter f args) w) :
    Calls Tryd.prog 94 #[.slice ar nr cr, .func (.func f) #[] bs] w fun e w' => ∃ r : Int, e = .returned (.int .i64 r) ∧ IxIs P row r ∧ Kept w w' := by
  have HR := hide1 hr
  have HROW := hide1 hrow
  have HF := hide1 hf
  obtain ⟨_, _, e1, hc, hn⟩ := hr.len
  simp only [Value.slice.injEq] at e1
  obtain ⟨rfl, en, rfl⟩ := e1
  clear en
  rw [hrow] at hc hn
  have gn : (nr : Int) ≤ 17592186044416 := by omega
  clear hr hrow hf
  go_enter Tryd.func94, Tryd.ntmps94
  go_wp2_with fail
  go_loopw [8] (IxR P row w) (fun i _ => nr - (intOf i).toNat)
  case atStart => exact ⟨0, rfl, Nat.zero_le _, rfl, Kept.refl w⟩
  case round =>
    obtain ⟨j, rfl, hj, HA, HKr⟩ := hrel
    rw [HROW.out] at hj
    by_cases hlt : (j : Int) < (nr : Int)
    · obtain ⟨x, hx⟩ : ∃ x, row[j]? = some x := ⟨_, List.getElem?_eq_getElem (by have := HROW.out; omega)⟩
      obtain ⟨cb, ob, cs, ea, hcb, hlen, hcell, v', hcs, hrt⟩ := SliceOf.el (HR.out.keep HKr.out) hx
      subst ea hcs
      have k0 := hcell 0 _ rfl
      have k1 := hcell 1 _ rfl
      have k0 : wr.cell? ⟨cb, ob + j * 2, none⟩ = some (.int .i64 x.1) := k0
      have HX := hide1 hx
      have HC := hide1 (HF.out x (List.mem_of_getElem? hx) v' wr hrt)
      have gjc : (j : Int) < (cr : Int) := by omega
      obtain ⟨kd, nn⟩ := x
      have hef := ef
      obtain ⟨a2, c2, rfl, _, _⟩ := hrt.len
      clear hx hcell hrt
      have HA2 : Hid (∀ b, P (kd, nn) = b → (row.take (j + 1)).any P = b) := by
        intro b hb
        rw [List.take_add_one, HX.out, List.any_append, HA.out]
        simpa using hb
      cases hp : P (kd, nn) with
      | true =>
        rw [hp] at HC
        have HB := hide1 (HA2.out true hp)
        clear hp HA2
        go_wp2_with fail
        refine HC.out.mono ?_
        rintro e w6 ⟨rfl, hk6⟩
        have HK6 := hide1 (gtrans HKr.out hk6)
        clear hk6
        go_wp2_with fail
        go_ret
        refine ⟨(j : Int), rfl, .inr ⟨by omega, by omega, ?_⟩, HK6.out⟩
        rw [← List.take_append_drop (j + 1) row, List.any_append, HB.out]
        rfl
      | false =>
        rw [hp] at HC
        have HB := hide1 (HA2.out false hp)
        clear hp HA2
        go_wp2_with fail
        refine HC.out.mono ?_
        rintro e w6 ⟨rfl, hk6⟩
        have HK6 := hide1 (gtrans HKr.out hk6)
        clear hk6
        go_wp2_with fail
        go_roundw
        case rel => exact ⟨j + 1, by go_num, by rw [HROW.out]; omega, HB, HK6⟩
        case measure => simp [intOf]; omega
    · go_wp2_with fail
      go_ret
      refine ⟨-1, rfl, .inl ⟨rfl, ?_⟩, HKr.out⟩
      rw [← HA.out, List.take_of_length_le (by have := HROW.out; omega)]
set_option linter.unusedSimpArgs false in
set_option maxRecDepth 100000 in
set_option maxHeartbeats 4000000 in
theorem containsProd_is (f : Nat) (bs : Array Value) (P : ProdM → Bool) (ar : Option Addr) (nr cr : Nat) (row : List ProdM) (hrow : row.length = nr) (b : Bool) (hb : row.any P = b) (w : World) (hr : ProdsAt w (.slice ar nr cr) row)
    (hf : ∀ x ∈ row, ∀ v wr, RightAt wr v x.2 → Calls Tryd.prog f (#[.agg #[.int .i64 x.1, v]] ++ bs) wr fun e w' => e = .returned (.bool (P x)) ∧ Kept wr w')
    (ef : ∀ args w, (callFunc f args).run Tryd.prog w = .ok (.enter f args) w) :
    Calls Tryd.prog 82 #[.slice ar nr cr, .func (.func f) #[] bs] w fun e w' => e = .returned (.bool b) ∧ Kept w w' := by
  have HI := hide1 (indexProd_is f bs P ar nr cr row hrow w hr hf ef)
  have HB := hide1 hb
  clear hr hf hrow hb
  go_enter Tryd.func82, Tryd.ntmps82
  go_wp2_with (go_at_call 94; refine HI.out.mono ?_; rintro e w6 ⟨r, rfl, hr6, hk6⟩; have HR6 := hide1 hr6; have HK6 := hide1 hk6; clear hr6 hk6)
  go_ret
  refine ⟨?_, HK6.out⟩
  have e : decide (0 ≤ r) = b := by
    rcases HR6.out with ⟨h1, h2⟩ | ⟨h1, _, h2⟩
    · rw [← HB.out, h2, h1]; rfl
    · rw [← HB.out, h2]; simpa using h1
  rw [← e]
  rfl

set_option linter.unusedSimpArgs false in
set_option maxRecDepth 100000 in
set_option maxHeartbeats 4000000 in
theorem long1_is (l : Int) (row : List SymM) (v : Value) (w : World) (hr : RightAt w v row) : Calls Tryd.prog 83 #[.agg #[.int .i64 l, v]] w fun e w' => e = .returned (.bool (decide (16 < row.length))) ∧ Kept w w' := by
  obtain ⟨a, c, rfl, hc, hn⟩ := hr.len
  obtain ⟨n, hn2⟩ : ∃ n, row.length = n := ⟨_, rfl⟩
  rw [hn2] at hc hn ⊢
  have gn : (n : Int) ≤ 17592186044416 := by omega
  have e : decide (16 < n) = decide ((16 : Int) < (n : Int)) := by rw [decide_eq_decide]; omega
  rw [e]
  clear e hr hn2
  have HK1 : Hid (Kept w (w.alloc (.cells #[.int .i64 l, .slice a n c] 40))) := (Kept.refl w).alloc _ _
  obtain ⟨p0, p1⟩ := (PBox.new w (.int .i64 l) (.slice a n c)).cells
  go_enter Tryd.func83, Tryd.ntmps83
  go_wp2
  go_ret
  exact ⟨rfl, HK1.out⟩
/-- Is a spec past a bound? -/
def longB (nl nn : Nat) (ps : List ProdM) : Bool := decide (64 < nl) || decide (128 < nn) || decide (512 < ps.length) || ps.any (fun p => decide (16 < p.2.length))
def LongQ (nl nn : Nat) (ps : List ProdM) (x : Int × Int) : Prop := x = (if longB nl nn ps then 2 else 0, 0)
set_option linter.unusedSimpArgs false in
set_option maxRecDepth 100000 in
set_option maxHeartbeats 4000000 in
theorem checkSizes_is (ps : List ProdM) (al an ap : Option Addr) (nl cl nn cn np cp : Nat) (x2 : Value) (w : World) (hnl : nl ≤ 17592186044416) (hnn : nn ≤ 17592186044416) (hps : ps.length = np) (hp : ProdsAt w (.slice ap np cp) ps) :
    Calls Tryd.prog 50 #[.agg #[.slice al nl cl, .slice an nn cn, x2, .slice ap np cp]] w (FaultR (LongQ nl nn ps) w) := by
  obtain ⟨h1, h2, h3⟩ := chk_start w (.slice al nl cl) (.slice an nn cn) x2 (.slice ap np cp)
  have HB := hide1 h1
  have HF := hide1 h2
  have HK := hide1 h3
  have HP := hide1 hp
  have HPS := hide1 hps
  obtain ⟨_, _, e1, hcl, hn⟩ := hp.len
  simp only [Value.slice.injEq] at e1
  obtain ⟨rfl, en, rfl⟩ := e1
  clear en
  rw [hps] at hcl hn
  have gn : (nn : Int) ≤ 17592186044416 := by omega
  have gl : (nl : Int) ≤ 17592186044416 := by omega
  have gp : (np : Int) ≤ 17592186044416 := by omega
  clear h1 h2 h3 hp hps
  go_enter Tryd.func50, Tryd.ntmps50
  go_upto_region 1 with fail
  obtain ⟨W, hW⟩ : ∃ W, (w.alloc (.cells #[.slice al nl cl, .slice an nn cn, x2, .slice ap np cp] 26)).alloc (.cells #[.int .i64 0, .int .i64 0, .string ⟨#[]⟩] 44) = W := ⟨_, rfl⟩
  rw [hW] at HB HF HK ⊢
  clear hW
  obtain ⟨b, hb⟩ : ∃ b, w.heap.size = b := ⟨_, rfl⟩
  rw [hb] at HB HF ⊢
  have HSZ := hide1 hb
  clear hb
  obtain ⟨s0, s1, s2, s3⟩ := HB.out.facts
  obtain ⟨⟨f0, f1, f2⟩, z0, z1, z2⟩ := HF.out.cells
  by_cases h1 : (64 : Int) < (nl : Int)
  · have HLB : Hid (longB nl nn ps = true) := by unfold longB; show _ = _; simp; omega
    go_wp2_with fail
    refine bodyPost_ret (results_cell_row rfl _ _ (b + 1) 44 _ (0, 0) _ rfl (HF.out.fill 2 0) Tryd.underlying44 rfl (fault_size _ _)) rfl ?_
    exact ⟨(2, 0), rfl, (by unfold LongQ; rw [HLB.out]; rfl), keepB (keepB (keepB HK.out (by rw [HSZ.out]; omega)) (by rw [HSZ.out]; omega)) (by rw [HSZ.out]; omega)⟩
  · by_cases h2 : (128 : Int) < (nn : Int)
    · have HLB : Hid (longB nl nn ps = true) := by unfold longB; show _ = _; simp; omega
      go_wp2_with fail
      refine bodyPost_ret (results_cell_row rfl _ _ (b + 1) 44 _ (0, 0) _ rfl (HF.out.fill 2 0) Tryd.underlying44 rfl (fault_size _ _)) rfl ?_
      exact ⟨(2, 0), rfl, (by unfold LongQ; rw [HLB.out]; rfl), keepB (keepB (keepB HK.out (by rw [HSZ.out]; omega)) (by rw [HSZ.out]; omega)) (by rw [HSZ.out]; omega)⟩
    · by_cases h3 : (512 : Int) < (np : Int)
      · have HLB : Hid (longB nl nn ps = true) := by have := HPS.out; unfold longB; show _ = _; simp; omega
        go_wp2_with fail
        refine bodyPost_ret (results_cell_row rfl _ _ (b + 1) 44 _ (0, 0) _ rfl (HF.out.fill 2 0) Tryd.underlying44 rfl (fault_size _ _)) rfl ?_
        exact ⟨(2, 0), rfl, (by unfold LongQ; rw [HLB.out]; rfl), keepB (keepB (keepB HK.out (by rw [HSZ.out]; omega)) (by rw [HSZ.out]; omega)) (by rw [HSZ.out]; omega)⟩
      · have HLB : Hid (longB nl nn ps = ps.any (fun p => decide (16 < p.2.length))) := by
          have := HPS.out
          unfold longB
          show _ = _
          rw [show decide (64 < nl) = false by simp; omega, show decide (128 < nn) = false by simp; omega, show decide (512 < ps.length) = false by simp; omega]
          rfl
        cases hany : ps.any (fun p => decide (16 < p.2.length)) with
        | true =>
          have HAN := hide1 hany
          clear hany f0 f1 f2 z0 z1 z2
          go_wp2_with (go_at_call 82; refine (containsProd_is 83 #[] (fun p => decide (16 < p.2.length)) ap np cp ps HPS.out true HAN.out _ (HP.out.keep HK.out) (fun x _ v wr hr => long1_is x.1 x.2 v wr hr) (enters_of Tryd.func83 (by kernel_rfl) rfl)).mono ?_; rintro e w6 ⟨rfl, hk6⟩; have HK6 := hide1 (gtrans HK.out hk6); have HF6 := hide1 (HF.out.keep hk6); obtain ⟨⟨f0, f1, f2⟩, z0, z1, z2⟩ := HF6.out.cells; clear hk6)
          refine bodyPost_ret (results_cell_row rfl _ _ (b + 1) 44 _ (0, 0) _ rfl (HF6.out.fill 2 0) Tryd.underlying44 rfl (fault_size _ _)) rfl ?_
          exact ⟨(2, 0), rfl, (by unfold LongQ; rw [HLB.out, HAN.out]; rfl), keepB (keepB (keepB HK6.out (by rw [HSZ.out]; omega)) (by rw [HSZ.out]; omega)) (by rw [HSZ.out]; omega)⟩
        | false =>
          have HAN := hide1 hany
          clear hany f0 f1 f2 z0 z1 z2
          go_wp2_with (go_at_call 82; refine (containsProd_is 83 #[] (fun p => decide (16 < p.2.length)) ap np cp ps HPS.out false HAN.out _ (HP.out.keep HK.out) (fun x _ v wr hr => long1_is x.1 x.2 v wr hr) (enters_of Tryd.func83 (by kernel_rfl) rfl)).mono ?_; rintro e w6 ⟨rfl, hk6⟩; have HK6 := hide1 (gtrans HK.out hk6); have HF6 := hide1 (HF.out.keep hk6); obtain ⟨⟨f0, f1, f2⟩, z0, z1, z2⟩ := HF6.out.cells; clear hk6)
          refine bodyPost_ret (results_cell_row rfl _ _ (b + 1) 44 _ (0, 0) _ rfl (HF6.out.fill 0 0) Tryd.underlying44 rfl (fault_size _ _)) rfl ?_
          exact ⟨(0, 0), rfl, (by unfold LongQ; rw [HLB.out, HAN.out]; rfl), keepB (keepB (keepB HK6.out (by rw [HSZ.out]; omega)) (by rw [HSZ.out]; omega)) (by rw [HSZ.out]; omega)⟩

end Ex
end Go.Proofs.YtooelfjceehmmaaDoor
