import Derived.Test.YtooelfjceehmmaaDoorMSpHd
namespace Go.Proofs.YtooelfjceehmmaaDoor
open Go.RowKit
attribute [local go_sem] Oper.semAt_some
namespace Ex

theorem exec_load_at {P : Program} (ρ : Operand → Value) (o : Oper) (ty : TypeId) (x : Operand) (a : Addr) (v : Value) (w : World) (ho : o.op = .load ty x) (hx : ρ x = .pointer (some a)) (hl : (loadVar ty a).run P w = .ok v w) : (execOp ρ o).run P w = .ok (.value v) w := by
  unfold execOp
  simp only [ho, hx, Instr.loadAt, Instr.sureAddr, Sem.run_bind, Sem.run_pure, Result.andThen_ok, hl]
/-- A production's heads are put to its name's. -/
theorem fi_put {nl E : Nat} {ps : List ProdM} {F0 F : Nat → Nat} {j l H : Nat} {p : ProdM} (h : LfStep (fun _ => False) (fun i => i < ps.length) (FiG nl (fun n => E.testBit n = true) ps) (famS F0) (famS F) (fun i => i < j)) (hp : ps[j]? = some p) (hl : p.1.toNat = l) (hH : headsM nl E F 0 p.2 0 = H) : LfStep (fun _ => False) (fun i => i < ps.length) (FiG nl (fun n => E.testBit n = true) ps) (famS F0) (famS (putV F l (F l ||| H))) (fun i => i < j + 1) := by
  have e : putV F l (F l ||| H) = orV F l H := funext (fun i => by
    unfold putV orV
    by_cases e : i = l
    · rw [if_pos e, if_pos e, e]
    · rw [if_neg e, if_neg e])
  rw [e]
  have hb : ∀ t, H.testBit t = true ↔ HeadS nl (fun n => E.testBit n = true) (famS F) (fun _ => False) p.2 t := fun t => by
    rw [← hH, heads_bit]
    constructor
    · rintro (h | h)
      · simp at h
      · exact h.mono (fun _ h => h) (fun t ht => by simp at ht)
    · exact fun h => .inr (h.mono (fun _ h => h) (fun _ h => h.elim))
  refine h.put (fi_up _ _ _) (i := j) (List.getElem?_eq_some_iff.1 hp).1 (fun k hk => by omega) (fun x hx => (fam_set F l H x).2 (.inl hx)) (fun x hx => ?_) (fun x hx => ?_)
  · rcases (fam_set F l H x).1 hx with hx | ⟨h1, h2⟩
    · exact .inl hx
    · exact .inr ⟨p, hp, h1.trans hl.symm, (hb x.2).1 h2⟩
  · obtain ⟨q, h1, h2, h3⟩ := hx
    rw [hp] at h1
    injection h1 with h1
    subst h1
    exact (fam_set F l H x).2 (.inr ⟨h2.trans hl, (hb x.2).2 h3⟩)
def GsI (nl E : Nat) (ps : List ProdM) (F0 : Nat → Nat) (gb : Nat) (x0 x1 x2 x3 : Value) (W : World) (vi : Value) (wr : World) : Prop := ∃ (j : Nat) (F : Nat → Nat), vi = .int .i64 (j : Int) ∧ j ≤ ps.length ∧ Hid (LfStep (fun _ => False) (fun i => i < ps.length) (FiG nl (fun n => E.testBit n = true) ps) (famS F0) (famS F) (fun i => i < j)) ∧ Hid ((∀ n, F n < 2 ^ 128) ∧ ∀ n, 128 ≤ n → F n = F0 n) ∧ Hid (GrB wr gb x0 x1 x2 x3 E F) ∧ Hid (KeptBut gb W wr)
def GsR (nl E : Nat) (ps : List ProdM) (F0 : Nat → Nat) (gb : Nat) (x0 x1 x2 x3 : Value) (w : World) (e : Ending) (w' : World) : Prop := ∃ F : Nat → Nat, LfStep (fun _ => False) (fun i => i < ps.length) (FiG nl (fun n => E.testBit n = true) ps) (famS F0) (famS F) (fun i => i < ps.length) ∧ ((∀ n, F n < 2 ^ 128) ∧ ∀ n, 128 ≤ n → F n = F0 n) ∧ e = .returned (.bool (!eqV F F0)) ∧ GrB w' gb x0 x1 x2 x3 E F ∧ KeptBut gb w w'
set_option linter.unusedSimpArgs false in
set_option maxRecDepth 100000 in
set_option maxHeartbeats 8000000 in
theorem gStep_is (gb g E nl : Nat) (F0 : Nat → Nat) (ps : List ProdM) (al : Option Addr) (cl : Nat) (x1 : Value) (st : Int) (ap : Option Addr) (np cp : Nat) (w0 w : World) (hnl : nl < 128) (hF0 : ∀ n, F0 n < 2 ^ 128) (hps : ps.length = np) (hA : GrB w gb (.slice al nl cl) x1 (.int .i64 st) (.slice ap np cp) E F0) (hg : SBox w g (.slice al nl cl) x1 (.int .i64 st) (.slice ap np cp)) (hp : ProdsAt w0 (.slice ap np cp) ps) (hk : Kept w0 w) (hd : w0.heap.size ≤ gb) (hgd : g ≠ gb) (hok : ∀ p ∈ ps, ProdGood p) :
    Calls Tryd.prog 60 #[.pointer (some ⟨gb, 0, none⟩), .pointer (some ⟨g, 0, none⟩)] w (GsR nl E ps F0 gb (.slice al nl cl) x1 (.int .i64 st) (.slice ap np cp) w) := by
  have HPS := hide1 hps
  have HNL := hide1 hnl
  have HF0 := hide1 hF0
  have HP := hide1 hp
  have HK0 := hide1 hk
  have HD := hide1 hd
  have HGD := hide1 hgd
  have HOK := hide1 hok
  have HA := hide1 hA
  have HG := hide1 hg
  have HRG := hide1 hA.range
  obtain ⟨_, _, e1, hc, hn⟩ := hp.len
  simp only [Value.slice.injEq] at e1
  obtain ⟨rfl, en, rfl⟩ := e1
  clear en
  rw [hps] at hc hn
  have gn : (np : Int) ≤ 17592186044416 := by omega
  clear hps hnl hA hg hp hk hd hgd hok hF0
  go_enter Tryd.func60, Tryd.ntmps60
  go_upto_region 1 with fail
  have HOD : Hid (w.heap.size ≠ gb) := Nat.ne_of_gt HA.out.lt
  go_upto_region 2 with (first
    | (refine wpList_load_mid rfl 79 _ rfl gb 6 rfl (famL F0) _ HRG.out Tryd.underlying79 rfl (fam_size F0) ?_)
    | (refine wpList_store_row rfl 79 _ _ rfl w.heap.size (famL F0).toArray rfl rfl 79 (famL fun _ => 0).toArray (by exact fam_zero w) (fam_sizeA F0) (by rw [List.size_toArray, List.size_toArray, famL_len, famL_len]) (famL_all F0) ?_))
  have HO2 : Hid (FaB ((w.alloc (.cells Tryd.zeroCells79 79)).setRow w.heap.size (famL F0).toArray) w.heap.size F0) := setRow_heap _ _ _ _ _ _ (fam_zero w)
  have HK2 : Hid (Kept w ((w.alloc (.cells Tryd.zeroCells79 79)).setRow w.heap.size (famL F0).toArray)) := KeptBut.up ((Kept.refl w).alloc _ _) (Nat.le_refl _) (setRow_butS _ _ _)
  clear HRG
  obtain ⟨W, hW⟩ : ∃ W, (w.alloc (.cells Tryd.zeroCells79 79)).setRow w.heap.size (famL F0).toArray = W := ⟨_, rfl⟩
  rw [hW] at HO2 HK2 ⊢
  clear hW
  obtain ⟨ob, hob⟩ : ∃ ob, w.heap.size = ob := ⟨_, rfl⟩
  rw [hob] at HO2 HOD ⊢
  clear hob
  have HA2 := hide1 (HA.out.keep HK2.out)
  have HG2 := hide1 (HG.out.keep HK2.out)
  obtain ⟨s0, s1, s2, s3⟩ := HG2.out.facts
  go_wp2_with fail
  clear s0 s1 s2 s3
  go_loopw [14] (GsI nl E ps F0 gb (.slice al nl cl) x1 (.int .i64 st) (.slice ap np cp) W) (fun i _ => np - (intOf i).toNat)
  case atStart => exact ⟨0, F0, rfl, Nat.zero_le _, LfStep.start _ (fun _ h => by omega), ⟨HF0.out, fun _ _ => rfl⟩, HA2, but_refl gb W⟩
  case round =>
    obtain ⟨j, F, rfl, hj, HM, HVV, HSr, HKr⟩ := hrel
    rw [HPS.out] at hj
    by_cases hlt : (j : Int) < (np : Int)
    · obtain ⟨p, hp⟩ : ∃ p, ps[j]? = some p := ⟨_, List.getElem?_eq_getElem (by have := HPS.out; omega)⟩
      have HKw := hide1 (KeptBut.up (gtrans HK0.out HK2.out) HD.out HKr.out)
      obtain ⟨cb, o2, cs, ea, hcb, hlen, hcell, v', hcs, hrt⟩ := SliceOf.el (HP.out.keep HKw.out) hp
      subst ea hcs
      have k0 : wr.cell? ⟨cb, o2 + j * 2, none⟩ = some (.int .i64 p.1) := hcell 0 _ rfl
      have k1 := hcell 1 _ rfl
      have gjc : (j : Int) < (cp : Int) := by omega
      have HOKp := hide1 (HOK.out p (List.mem_of_getElem? hp))
      have HPJ := hide1 hp
      obtain ⟨ar, cr, rfl, hcr, hnr⟩ := hrt.len
      obtain ⟨nr, hnr2⟩ : ∃ nr, p.2.length = nr := ⟨_, rfl⟩
      rw [hnr2] at hrt hcr hnr k1
      have HNR := hide1 hnr2
      have HRT := hide1 hrt
      obtain ⟨l, hl⟩ : ∃ l : Nat, p.1 = (l : Int) := ⟨p.1.toNat, by have := HOKp.out.1.1; omega⟩
      have HLE : Hid (p.1.toNat = l) := by show _ = _; omega
      have HL : Hid (l < 128) := by have := HOKp.out.1; show _ < _; omega
      rw [hl] at k0
      clear hp hcell hrt hnr2 hl
      have HPB := hide1 (PBox.new wr (.int .i64 (l : Int)) (.slice ar nr cr))
      have HK4 : Hid (Kept wr (wr.alloc (.cells #[.int .i64 (l : Int), .slice ar nr cr] 40))) := (Kept.refl wr).alloc _ _
      have HPBD : Hid (wr.heap.size ≠ gb) := Nat.ne_of_gt HSr.out.lt
      go_upto_region 5 with fail
      clear k0 k1
      obtain ⟨W4, hW4⟩ : ∃ W4, wr.alloc (.cells #[.int .i64 (l : Int), .slice ar nr cr] 40) = W4 := ⟨_, rfl⟩
      rw [hW4] at HPB HK4 ⊢
      clear hW4
      obtain ⟨pb, hpb⟩ : ∃ pb, wr.heap.size = pb := ⟨_, rfl⟩
      rw [hpb] at HPB HPBD ⊢
      clear hpb
      have HS4 := hide1 (HSr.out.keep HK4.out)
      have gl8 : (l : Int) < 128 := by have := HL.out; omega
      obtain ⟨H, hH⟩ : ∃ H, headsM nl E F 0 p.2 0 = H := ⟨_, rfl⟩
      obtain ⟨z, hz⟩ : ∃ z, F l = z := ⟨_, rfl⟩
      have HH := hide1 hH
      have HZ := hide1 hz
      have HMP := hide1 (fi_put HM.out HPJ.out HLE.out hH)
      have HMV : Hid ((∀ n, putV F l (F l ||| H) n < 2 ^ 128) ∧ ∀ n, 128 ≤ n → putV F l (F l ||| H) n = F0 n) := by
        have hb : H < 2 ^ 128 := hH ▸ heads_lt HNL.out HVV.out.1 (by decide) p.2 0 (by decide) (fun x hx h3 => term_lt HNL.out (HOKp.out.2 x hx) h3)
        refine ⟨fun n => ?_, fun n hn => ?_⟩
        · unfold putV
          split
          · exact Nat.or_lt_two_pow (HVV.out.1 l) hb
          · exact HVV.out.1 n
        · unfold putV
          rw [if_neg (by have := HL.out; omega)]
          exact HVV.out.2 n hn
      rw [hz] at HMP HMV
      clear hH hz
      refine wp_region_held_drew (S := fun X => KeptBut gb W4 X) (by kernel_rfl) (but_refl gb W4) (fun hHeld => ?_)
      refine wpAnyH_take (i := 0) (v := .pointer (some ⟨gb, 0, none⟩)) rfl (by kernel_rfl) (by kernel_rfl) (by kernel_rfl) (fun _ _ _ h => h) (Or.inl ⟨by rfl, fun w' hSw => ?_⟩) (by with_reducible assumption) ?_
      · clear hSw
        go_simp
      try simp only [Act.put, List.setIfInBounds_toArray, List.set_cons_zero, List.set_cons_succ]
      refine wpAnyH_take (i := 1) (v := .pointer (some ⟨pb, 0, none⟩)) rfl (by kernel_rfl) (by kernel_rfl) (by kernel_rfl) (fun _ _ _ h => h) (Or.inl ⟨by rfl, fun w' hSw => ?_⟩) (by with_reducible assumption) ?_
      · clear hSw
        go_simp
      try simp only [Act.put, List.setIfInBounds_toArray, List.set_cons_zero, List.set_cons_succ]
      refine wpAnyH_take (i := 2) (v := .int .i64 (l : Int)) rfl (by kernel_rfl) (by kernel_rfl) (by kernel_rfl) (fun _ _ _ h => h) (Or.inl ⟨by rfl, fun w' hSw => ?_⟩) (by with_reducible assumption) ?_
      · have s0 := (PBox.but HPB.out hSw HPBD.out).cells.1
        clear hSw
        go_simp
      try simp only [Act.put, List.setIfInBounds_toArray, List.set_cons_zero, List.set_cons_succ]
      refine wpAnyH_take (i := 3) (v := .pointer (some ⟨gb, 0, none⟩)) rfl (by kernel_rfl) (by kernel_rfl) (by kernel_rfl) (fun _ _ _ h => h) (Or.inl ⟨by rfl, fun w' hSw => ?_⟩) (by with_reducible assumption) ?_
      · clear hSw
        go_simp
      try simp only [Act.put, List.setIfInBounds_toArray, List.set_cons_zero, List.set_cons_succ]
      refine wpAnyH_take (i := 4) (v := .pointer (some ⟨pb, 0, none⟩)) rfl (by kernel_rfl) (by kernel_rfl) (by kernel_rfl) (fun _ _ _ h => h) (Or.inl ⟨by rfl, fun w' hSw => ?_⟩) (by with_reducible assumption) ?_
      · clear hSw
        go_simp
      try simp only [Act.put, List.setIfInBounds_toArray, List.set_cons_zero, List.set_cons_succ]
      refine wpAnyH_take (i := 5) (v := .int .i64 (l : Int)) rfl (by kernel_rfl) (by kernel_rfl) (by kernel_rfl) (fun _ _ _ h => h) (Or.inl ⟨by rfl, fun w' hSw => ?_⟩) (by with_reducible assumption) ?_
      · have s0 := (PBox.but HPB.out hSw HPBD.out).cells.1
        clear hSw
        go_simp
      try simp only [Act.put, List.setIfInBounds_toArray, List.set_cons_zero, List.set_cons_succ]
      refine wpAnyH_take (i := 6) (v := .pointer (some ⟨gb, 0, none⟩)) rfl (by kernel_rfl) (by kernel_rfl) (by kernel_rfl) (fun _ _ _ h => h) (Or.inl ⟨by rfl, fun w' hSw => ?_⟩) (by with_reducible assumption) ?_
      · clear hSw
        go_simp
      try simp only [Act.put, List.setIfInBounds_toArray, List.set_cons_zero, List.set_cons_succ]
      refine wpAnyH_take (i := 7) (v := .pointer (some ⟨gb, 6, none⟩)) rfl (by kernel_rfl) (by kernel_rfl) (by kernel_rfl) (fun _ _ _ h => h) (Or.inl ⟨by rfl, fun w' hSw => ?_⟩) (by with_reducible assumption) ?_
      · clear hSw
        go_simp
      try simp only [Act.put, List.setIfInBounds_toArray, List.set_cons_zero, List.set_cons_succ]
      refine wpAnyH_take (i := 8) (v := .pointer (some ⟨gb, 6 + l * 2, none⟩)) rfl (by kernel_rfl) (by kernel_rfl) (by kernel_rfl) (fun _ _ _ h => h) (Or.inl ⟨by rfl, fun w' hSw => ?_⟩) (by with_reducible assumption) ?_
      · clear hSw
        go_simp
      try simp only [Act.put, List.setIfInBounds_toArray, List.set_cons_zero, List.set_cons_succ]
      refine wpAnyH_take (i := 10) (v := .pointer (some ⟨gb, 0, none⟩)) rfl (by kernel_rfl) (by kernel_rfl) (by kernel_rfl) (fun _ _ _ h => h) (Or.inl ⟨by rfl, fun w' hSw => ?_⟩) (by with_reducible assumption) ?_
      · clear hSw
        go_simp
      try simp only [Act.put, List.setIfInBounds_toArray, List.set_cons_zero, List.set_cons_succ]
      refine wpAnyH_take (i := 11) (v := .pointer (some ⟨pb, 1, none⟩)) rfl (by kernel_rfl) (by kernel_rfl) (by kernel_rfl) (fun _ _ _ h => h) (Or.inl ⟨by rfl, fun w' hSw => ?_⟩) (by with_reducible assumption) ?_
      · clear hSw
        go_simp
      try simp only [Act.put, List.setIfInBounds_toArray, List.set_cons_zero, List.set_cons_succ]
      refine wpAnyH_take (i := 12) (v := .slice ar nr cr) rfl (by kernel_rfl) (by kernel_rfl) (by kernel_rfl) (fun _ _ _ h => h) (Or.inl ⟨by rfl, fun w' hSw => ?_⟩) (by with_reducible assumption) ?_
      · have s0 := (PBox.but HPB.out hSw HPBD.out).cells.2
        clear hSw
        go_simp
      try simp only [Act.put, List.setIfInBounds_toArray, List.set_cons_zero, List.set_cons_succ]
      refine wpAnyH_take (i := 13) (v := .agg #[.int .u64 0, .int .u64 0]) rfl (by kernel_rfl) (by kernel_rfl) (by kernel_rfl) (fun _ _ _ h => h) (Or.inl ⟨by rfl, fun w' hSw => ?_⟩) (by with_reducible assumption) ?_
      · clear hSw
        go_simp
      try simp only [Act.put, List.setIfInBounds_toArray, List.set_cons_zero, List.set_cons_succ]
      refine wpAnyH_take (i := 16) (v := .pointer (some ⟨gb, 0, none⟩)) rfl (by kernel_rfl) (by kernel_rfl) (by kernel_rfl) (fun _ _ _ h => h) (Or.inl ⟨by rfl, fun w' hSw => ?_⟩) (by with_reducible assumption) ?_
      · clear hSw
        go_simp
      try simp only [Act.put, List.setIfInBounds_toArray, List.set_cons_zero, List.set_cons_succ]
      refine wpAnyH_take (i := 17) (v := .pointer (some ⟨gb, 6, none⟩)) rfl (by kernel_rfl) (by kernel_rfl) (by kernel_rfl) (fun _ _ _ h => h) (Or.inl ⟨by rfl, fun w' hSw => ?_⟩) (by with_reducible assumption) ?_
      · clear hSw
        go_simp
      try simp only [Act.put, List.setIfInBounds_toArray, List.set_cons_zero, List.set_cons_succ]
      refine wpAnyH_ready (rs := [9, 14]) (by kernel_rfl) (by simp) ?_
      refine AllReadyH.cons (i := 9) rfl (fun K hK => ?_) (AllReadyH.cons (i := 14) rfl (fun K hK => ?_) AllReadyH.nil)
      · have a0 : W4.drew.cell? ⟨gb, 6 + l * 2, none⟩ = some (.int .u64 (wordAt z 0 : Nat)) := HZ.out ▸ (HS4.out.fam HL.out).1
        have a1 : W4.drew.cell? ⟨gb, 6 + l * 2 + 1, none⟩ = some (.int .u64 (wordAt z 1 : Nat)) := HZ.out ▸ (HS4.out.fam HL.out).2
        go_simp
        clear a0 a1
        refine hK.out _ _ hHeld (fun hHeld2 => ?_)
        clear hK K hHeld
        have hHeld := hHeld2
        clear hHeld2
        try simp only [Act.put, List.setIfInBounds_toArray, List.set_cons_zero, List.set_cons_succ]
        refine wpAnyH_ready (rs := [14]) (by kernel_rfl) (by simp) ?_
        refine AllReadyH.cons (i := 14) rfl (fun K hK => ?_) AllReadyH.nil
        go_simp
        go_wp2_with (go_at_call 31; refine (gHeads_is gb E 0 nl F al cl x1 _ st ar nr cr p.2 _ HNL.out HNR.out (HRT.out.keep (gtrans HK4.out (drew_kept W4))) (HS4.out.keep (drew_kept W4)) HOKp.out.2).mono ?_; rintro e w6 ⟨rfl, hk6⟩; rw [HH.out, setS_eq]; have HK6 := hide1 (gtrans (drew_kept W4) hk6); clear hk6)
        refine hK.out _ _ (HK6.out.but gb) (fun hHeld2 => ?_)
        clear hK K hHeld
        have hHeld := hHeld2
        clear hHeld2
        try simp only [Act.put, List.setIfInBounds_toArray, List.set_cons_zero, List.set_cons_succ]
        refine wpAnyH_ready (rs := [15]) (by kernel_rfl) (by simp) ?_
        refine AllReadyH.cons (i := 15) rfl (fun K hK => ?_) AllReadyH.nil
        go_simp
        go_wp2_with (go_at_call 61; refine (sOr_is z H _).mono ?_; rintro e w7 ⟨rfl, hk7⟩; rw [setS_eq]; have HK7 := hide1 (gtrans HK6.out hk7); clear hk7)
        refine hK.out _ _ (HK7.out.but gb) (fun hHeld2 => ?_)
        clear hK K hHeld
        have hHeld := hHeld2
        clear hHeld2
        try simp only [Act.put, List.setIfInBounds_toArray, List.set_cons_zero, List.set_cons_succ]
        refine wpAnyH_take (i := 18) (v := .pointer (some ⟨gb, 6 + l * 2, none⟩)) rfl (by kernel_rfl) (by kernel_rfl) (by kernel_rfl) (fun _ _ _ h => h) (Or.inl ⟨by rfl, fun w' hSw => ?_⟩) (by with_reducible assumption) ?_
        · clear hSw
          go_simp
        try simp only [Act.put, List.setIfInBounds_toArray, List.set_cons_zero, List.set_cons_succ]
        refine wpAnyH_ready (rs := [19]) (by kernel_rfl) (by simp) ?_
        refine AllReadyH.cons (i := 19) rfl (fun K hK => ?_) AllReadyH.nil
        have HS7 := hide1 (HS4.out.keep HK7.out)
        obtain ⟨a0, a1⟩ := HS7.out.fam HL.out
        have z0 := Blk.free HS7.out (6 + l * 2)
        have z1 := Blk.free HS7.out (6 + l * 2 + 1)
        go_simp
        clear a0 a1 z0 z1
        have HS8 := hide1 (HS7.out.set l (z ||| H))
        have HK8 : Hid (KeptBut gb W4 ((w7.setCell ⟨gb, 6 + l * 2, none⟩ (.int .u64 (wordAt (z ||| H) 0 : Nat))).setCell ⟨gb, 6 + l * 2 + 1, none⟩ (.int .u64 (wordAt (z ||| H) 1 : Nat)))) := but_set (but_set (HK7.out.but gb) _ _) _ _
        refine hK.out _ _ HK8.out (fun hHeld2 => ?_)
        clear hK K hHeld
        have hHeld := hHeld2
        clear hHeld2
        try simp only [Act.put, List.setIfInBounds_toArray, List.set_cons_zero, List.set_cons_succ]
        refine wpAnyH_done (by kernel_rfl) ?_ _
        clear hHeld
        go_wp2_with fail
        go_roundw
        case rel => exact ⟨j + 1, _, by go_num, by rw [HPS.out]; omega, HMP, HMV, HS8, HKr.out.trans ((HK4.out.but gb).trans HK8.out)⟩
        case measure => simp [intOf]; omega
      · go_simp
        go_wp2_with (go_at_call 31; refine (gHeads_is gb E 0 nl F al cl x1 _ st ar nr cr p.2 _ HNL.out HNR.out (HRT.out.keep (gtrans HK4.out (drew_kept W4))) (HS4.out.keep (drew_kept W4)) HOKp.out.2).mono ?_; rintro e w6 ⟨rfl, hk6⟩; rw [HH.out, setS_eq]; have HK6 := hide1 (gtrans (drew_kept W4) hk6); clear hk6)
        refine hK.out _ _ (HK6.out.but gb) (fun hHeld2 => ?_)
        clear hK K hHeld
        have hHeld := hHeld2
        clear hHeld2
        try simp only [Act.put, List.setIfInBounds_toArray, List.set_cons_zero, List.set_cons_succ]
        refine wpAnyH_ready (rs := [9]) (by kernel_rfl) (by simp) ?_
        refine AllReadyH.cons (i := 9) rfl (fun K hK => ?_) AllReadyH.nil
        have a0 : w6.cell? ⟨gb, 6 + l * 2, none⟩ = some (.int .u64 (wordAt z 0 : Nat)) := HZ.out ▸ ((HS4.out.keep HK6.out).fam HL.out).1
        have a1 : w6.cell? ⟨gb, 6 + l * 2 + 1, none⟩ = some (.int .u64 (wordAt z 1 : Nat)) := HZ.out ▸ ((HS4.out.keep HK6.out).fam HL.out).2
        go_simp
        clear a0 a1
        refine hK.out _ _ hHeld (fun hHeld2 => ?_)
        clear hK K hHeld
        have hHeld := hHeld2
        clear hHeld2
        try simp only [Act.put, List.setIfInBounds_toArray, List.set_cons_zero, List.set_cons_succ]
        refine wpAnyH_ready (rs := [15]) (by kernel_rfl) (by simp) ?_
        refine AllReadyH.cons (i := 15) rfl (fun K hK => ?_) AllReadyH.nil
        go_simp
        go_wp2_with (go_at_call 61; refine (sOr_is z H _).mono ?_; rintro e w7 ⟨rfl, hk7⟩; rw [setS_eq]; have HK7 := hide1 (gtrans HK6.out hk7); clear hk7)
        refine hK.out _ _ (HK7.out.but gb) (fun hHeld2 => ?_)
        clear hK K hHeld
        have hHeld := hHeld2
        clear hHeld2
        try simp only [Act.put, List.setIfInBounds_toArray, List.set_cons_zero, List.set_cons_succ]
        refine wpAnyH_take (i := 18) (v := .pointer (some ⟨gb, 6 + l * 2, none⟩)) rfl (by kernel_rfl) (by kernel_rfl) (by kernel_rfl) (fun _ _ _ h => h) (Or.inl ⟨by rfl, fun w' hSw => ?_⟩) (by with_reducible assumption) ?_
        · clear hSw
          go_simp
        try simp only [Act.put, List.setIfInBounds_toArray, List.set_cons_zero, List.set_cons_succ]
        refine wpAnyH_ready (rs := [19]) (by kernel_rfl) (by simp) ?_
        refine AllReadyH.cons (i := 19) rfl (fun K hK => ?_) AllReadyH.nil
        have HS7 := hide1 (HS4.out.keep HK7.out)
        obtain ⟨a0, a1⟩ := HS7.out.fam HL.out
        have z0 := Blk.free HS7.out (6 + l * 2)
        have z1 := Blk.free HS7.out (6 + l * 2 + 1)
        go_simp
        clear a0 a1 z0 z1
        have HS8 := hide1 (HS7.out.set l (z ||| H))
        have HK8 : Hid (KeptBut gb W4 ((w7.setCell ⟨gb, 6 + l * 2, none⟩ (.int .u64 (wordAt (z ||| H) 0 : Nat))).setCell ⟨gb, 6 + l * 2 + 1, none⟩ (.int .u64 (wordAt (z ||| H) 1 : Nat)))) := but_set (but_set (HK7.out.but gb) _ _) _ _
        refine hK.out _ _ HK8.out (fun hHeld2 => ?_)
        clear hK K hHeld
        have hHeld := hHeld2
        clear hHeld2
        try simp only [Act.put, List.setIfInBounds_toArray, List.set_cons_zero, List.set_cons_succ]
        refine wpAnyH_done (by kernel_rfl) ?_ _
        clear hHeld
        go_wp2_with fail
        go_roundw
        case rel => exact ⟨j + 1, _, by go_num, by rw [HPS.out]; omega, HMP, HMV, HS8, HKr.out.trans ((HK4.out.but gb).trans HK8.out)⟩
        case measure => simp [intOf]; omega
    · have hjn : j = ps.length := by have := HPS.out; omega
      have HM2 : Hid (LfStep (fun _ => False) (fun i => i < ps.length) (FiG nl (fun n => E.testBit n = true) ps) (famS F0) (famS F) (fun i => i < ps.length)) := by
        have := HM.out
        rw [hjn] at this
        exact this
      have HSO : Hid (FaB wr ob F0) := Blk.but HO2.out HKr.out HOD.out
      have hne := neq_fam HVV.out.1 HF0.out
      have HNE := hide1 hne
      clear hne
      go_upto_region 7 with fail
      refine wp_region_held_drew (S := fun X => Kept wr X) (by kernel_rfl) (Kept.refl wr) (fun hHeld => ?_)
      refine wpAnyH_take (i := 0) (v := .pointer (some ⟨gb, 0, none⟩)) rfl (by kernel_rfl) (by kernel_rfl) (by kernel_rfl) (fun _ _ _ h => h) (Or.inl ⟨by rfl, fun w' hSw => ?_⟩) (by with_reducible assumption) ?_
      · clear hSw
        go_simp
      try simp only [Act.put, List.setIfInBounds_toArray, List.set_cons_zero, List.set_cons_succ]
      refine wpAnyH_take (i := 1) (v := .pointer (some ⟨gb, 0, none⟩)) rfl (by kernel_rfl) (by kernel_rfl) (by kernel_rfl) (fun _ _ _ h => h) (Or.inl ⟨by rfl, fun w' hSw => ?_⟩) (by with_reducible assumption) ?_
      · clear hSw
        go_simp
      try simp only [Act.put, List.setIfInBounds_toArray, List.set_cons_zero, List.set_cons_succ]
      refine wpAnyH_take (i := 2) (v := .pointer (some ⟨gb, 6, none⟩)) rfl (by kernel_rfl) (by kernel_rfl) (by kernel_rfl) (fun _ _ _ h => h) (Or.inl ⟨by rfl, fun w' hSw => ?_⟩) (by with_reducible assumption) ?_
      · clear hSw
        go_simp
      try simp only [Act.put, List.setIfInBounds_toArray, List.set_cons_zero, List.set_cons_succ]
      refine wpAnyH_take (i := 3) (v := .agg (famL F).toArray) rfl (by kernel_rfl) (by kernel_rfl) (by kernel_rfl) (fun _ _ _ h => h) (Or.inl ⟨by rfl, fun w' hSw => ?_⟩) (by with_reducible assumption) ?_
      · have s0 := run_loadVar_mid (P := Tryd.prog) w' gb 6 79 (famL F) _ (GrB.range (HSr.out.keep hSw)) Tryd.underlying79 rfl (fam_size F)
        exact exec_load_at _ _ 79 _ ⟨gb, 6, none⟩ (.agg (famL F).toArray) w' rfl rfl s0
      try simp only [Act.put, List.setIfInBounds_toArray, List.set_cons_zero, List.set_cons_succ]
      refine wpAnyH_take (i := 4) (v := .agg (famL F0).toArray) rfl (by kernel_rfl) (by kernel_rfl) (by kernel_rfl) (fun _ _ _ h => h) (Or.inl ⟨by rfl, fun w' hSw => ?_⟩) (by with_reducible assumption) ?_
      · have s0 := run_loadVar_row (P := Tryd.prog) w' ob 79 79 (famL F0).toArray (0, 0) _ (Blk.keep HSO.out hSw) Tryd.underlying79 rfl (fam_sizeA F0)
        exact exec_load_at _ _ 79 _ ⟨ob, 0, none⟩ (.agg (famL F0).toArray) w' rfl rfl s0
      try simp only [Act.put, List.setIfInBounds_toArray, List.set_cons_zero, List.set_cons_succ]
      refine wpAnyH_take (i := 5) (v := .bool (!eqV F F0)) rfl (by kernel_rfl) (by kernel_rfl) (by kernel_rfl) (fun _ _ _ h => h) (Or.inl ⟨by rfl, fun w' hSw => ?_⟩) (by with_reducible assumption) ?_
      · have s0 := HNE.out
        clear hSw
        go_simp
      try simp only [Act.put, List.setIfInBounds_toArray, List.set_cons_zero, List.set_cons_succ]
      refine wpAnyH_take (i := 6) (v := .bool (!eqV F F0)) rfl (by kernel_rfl) (by kernel_rfl) (by kernel_rfl) (fun _ _ _ h => h) (Or.inl ⟨by rfl, fun w' hSw => ?_⟩) (by with_reducible assumption) ?_
      · clear hSw
        go_simp
      try simp only [Act.put, List.setIfInBounds_toArray, List.set_cons_zero, List.set_cons_succ]
      refine wpAnyH_done (by kernel_rfl) ?_ _
      clear hHeld
      go_wp2_with fail
      go_ret
      exact ⟨F, HM2.out, HVV.out, rfl, HSr.out, ((HK2.out.but gb).trans HKr.out).trans ((drew_kept _).but gb)⟩

end Ex
end Go.Proofs.YtooelfjceehmmaaDoor
