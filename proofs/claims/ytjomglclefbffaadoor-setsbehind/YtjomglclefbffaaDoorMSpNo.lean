import Derived.Test.YtjomglclefbffaaDoorMSpNt
namespace Go.Proofs.YtjomglclefbffaaDoor
open Go.RowKit
attribute [local go_sem] Oper.semAt_some
namespace Ex

/-- Where notes stands in a right side. -/
def NoI (W0 : World) (b : Nat) (x0 x1 x2 x3 pk : Value) (nl s0 : Nat) (ps : List ProdM) (lb : Nat) (p : ProdM) (out : List Int) (st : Nat) (o : Value) (ms : List (Nat × Nat)) (u : Value) (W5 : World) (v : Value) (wr : World) : Prop := ∃ (i ai : Nat) (oi : List Int) (si : Nat) (vi : Value) (mi : List (Nat × Nat)) (ui : Value), v = .int .i64 (i : Int) ∧ i ≤ p.2.length ∧ Hid (NtS W0 b x0 x1 x2 x3 pk ps lb ai oi si vi mi ui wr) ∧ st + 1 ≤ si ∧ si ≤ 400 ∧ Hid (mi.length + (st + 1) ≤ ms.length + si) ∧ Hid (∃ r mr, oi = out ++ r ∧ mi = ms ++ mr ∧ RowOf nl (Sen nl ps) (p.2.take i) r ∧ NotesR nl s0 ps out.length p i r mr) ∧ Hid (Tk2 b lb o.ownBlock u.ownBlock W5 wr) ∧ Hid (OwS o.ownBlock W5.heap.size vi) ∧ Hid (OwS u.ownBlock W5.heap.size ui)
set_option linter.unusedSimpArgs false in
set_option maxRecDepth 100000 in
set_option maxHeartbeats 16000000 in
theorem not_step (W0 : World) (b : Nat) (x1 x2 : Value) (al ap ak : Option Addr) (nl cl np cp nk ck s0 lb : Nat) (ps : List ProdM) (pks : List Int) (N : Nat) (hW0 : W0.heap.size = b) (hnp : np ≤ 512) (hps : ps.length = np) (hpk : pks.length = nk) (hp : ProdsAt W0 (.slice ap np cp) ps) (hk : IntsR W0 (.slice ak nk ck) pks) (hin : ∀ p ∈ ps, (0 ≤ p.1) ∧ ∀ y ∈ p.2, SymIn ps y)
    (hmk : MakC W0 b (.slice al nl cl) x1 x2 (.slice ap np cp) (.slice ak nk ck) nl ps 401)
    (IH : NotC W0 b (.slice al nl cl) x1 x2 (.slice ap np cp) (.slice ak nk ck) nl s0 ps lb N) : NotC W0 b (.slice al nl cl) x1 x2 (.slice ap np cp) (.slice ak nk ck) nl s0 ps lb (N + 1) := by
  intro y at_ st out o ms v w hN hst hy hS
  obtain ⟨kd, nm⟩ := y
  dsimp only
  have HS := hide1 hS
  obtain ⟨⟨⟨oa, oc, ho⟩, hB, hO, hKw, hat, hol⟩, ⟨ma, mc, hv⟩, hL, hM, hbl, hd1, hd2, hml, hmn⟩ := hS
  obtain ⟨n, hn⟩ : ∃ n, out.length = n := ⟨_, rfl⟩
  rw [hn] at ho hol
  subst ho
  obtain ⟨km, hkm⟩ : ∃ km, ms.length = km := ⟨_, rfl⟩
  rw [hkm] at hv hml
  subst hv
  have HIH := hide1 IH
  have HMK := hide1 hmk
  have HIN := hide1 hin
  have HW0 := hide1 hW0
  have HPS := hide1 hps
  have HPK := hide1 hpk
  have HP := hide1 hp
  have HKK := hide1 hk
  have HY := hide1 hy
  have HNO := hide1 hn
  have HKM := hide1 hkm
  have HKw := hide1 hKw
  have HX := hide1 (XBox.new w kd nm)
  have HKa : Hid (Kept w (w.alloc (.cells #[.int .i64 kd, .int .i64 nm] 45))) := (Kept.refl w).alloc _ _
  have HB1 := hide1 (hB.keep HKa.out)
  have HO1 := hide1 (hO.keep HKa.out)
  have HS1 := hide1 (HS.out.keep HKa.out)
  have hbx : b < w.heap.size := hB.lt
  have HO0 := hide1 hO
  have HM0 := hide1 hM
  have hlx : lb < w.heap.size := hL.lt
  clear IH hmk hin hW0 hps hpk hp hk hy hn hKw hB hO hL hM hd1 hd2 hmn hkm
  go_enter Tryd.func15, Tryd.ntmps15
  go_upto_region 1 with fail
  obtain ⟨W1, hW1⟩ : ∃ W1, w.alloc (.cells #[.int .i64 kd, .int .i64 nm] 45) = W1 := ⟨_, rfl⟩
  rw [hW1] at HX HKa HB1 HO1 HS1 ⊢
  clear hW1
  obtain ⟨xb, hxb⟩ : ∃ xb, w.heap.size = xb := ⟨_, rfl⟩
  rw [hxb] at HX hbx hlx ⊢
  have HXB := hide1 hxb
  clear hxb
  have HNE : Hid (some xb ≠ (Value.slice oa n oc).ownBlock) := hide1 (fun e => by have h := (HO0.out.lt xb e.symm).2; have := HXB.out; omega)
  have HNE2 : Hid (some xb ≠ (Value.slice ma km mc).ownBlock) := hide1 (fun e => by have h := (HM0.out.lt xb e.symm).2; have := HXB.out; omega)
  by_cases h3 : kd = 3
  · subst h3
    have HY3 : Hid (0 ≤ nm ∧ ∃ p ∈ ps, p.1 = nm) := hide1 (by
      rcases HY.out with h | h | h
      · exact absurd h.1 (by show ¬ (3 : Int) = 1; decide)
      · exact absurd h (by show ¬ (3 : Int) = 2; decide)
      · exact h.2)
    have HNM : Hid (((nm.toNat : Nat) : Int) = nm) := hide1 (Int.toNat_of_nonneg HY3.out.1)
    clear HY
    obtain ⟨c0, c1, c2, c3, c4, c5, c6, c7⟩ := HB1.out.cells
    obtain ⟨d0, d1⟩ := HX.out.cells
    have z7 := HB1.out.free 7
    have gst : (st : Int) ≤ 400 := by omega
    go_upto_region 4 with fail
    clear c0 c1 c2 c3 c4 c5 c6 c7 z7 d0 d1
    have HB2 := hide1 (HB1.out.set7 ((st : Int) + 1))
    have HX2 : Hid (XBox (W1.setCell ⟨b, 7, none⟩ (.int .i64 ((st : Int) + 1))) xb 3 nm) := hide1 ((heap_set_ne (by omega)).trans HX.out)
    have HO2 : Hid (IntsO (W1.setCell ⟨b, 7, none⟩ (.int .i64 ((st : Int) + 1))) (b + 1) (.slice oa n oc) out) := hide1 (owns_same HO1.out (fun d hd => heap_set_ne (by have := (HO1.out.lt d hd).1; omega)))
    have HK2 : Hid (Kept W0 (W1.setCell ⟨b, 7, none⟩ (.int .i64 ((st : Int) + 1)))) := hide1 (keepB (gtrans HKw.out HKa.out) (by have := HW0.out; omega))
    have HT2 : Hid (TkS b (Value.slice oa n oc).ownBlock w (W1.setCell ⟨b, 7, none⟩ (.int .i64 ((st : Int) + 1)))) := hide1 ((TkS.of_kept HKa.out).and (TkS.of_but (setCell_but _ _ _ _)))
    generalize W1.setCell ⟨b, 7, none⟩ (.int .i64 ((st : Int) + 1)) = W2 at HB2 HX2 HO2 HK2 HT2 ⊢
    clear HX HKa HB1 HO1 HS1
    obtain ⟨c0, c1, c2, c3, c4, c5, c6, c7⟩ := HB2.out.cells
    obtain ⟨d0, d1⟩ := HX2.out.cells
    by_cases h400 : (400 : Int) < (st : Int) + 1
    · have HTP : Hid (Tp W0 b (.slice al nl cl) x1 x2 (.slice ap np cp) (.slice ak nk ck) at_ out (st + 1) (.slice oa n oc) W2) := hide1 ⟨⟨_, _, by rw [HNO.out]⟩, HB2.out, HO2.out, HK2.out, by omega, by rw [HNO.out]; omega⟩
      go_wp2_with fail
      go_ret
      refine ⟨false, at_, out, st + 1, .slice oa n oc, ms, .slice ma km mc, rfl, HS.out.trip HTP.out (by omega) HT2.out (.inl rfl), by omega, by omega, by omega, (fun h => by cases h), Tk2.of_one HT2.out, .inl rfl, .inl rfl⟩
    · go_upto_region 6 with fail
      clear c0 c1 c2 c3 c4 c5 c6 c7 d0 d1
      refine wp_region_held_drew (S := fun X => Kept W2 X) (by kernel_rfl) (Kept.refl W2) (fun hHeld => ?_)
      refine wpAnyH_take (i := 0) (v := .pointer (some ⟨b, 0, none⟩)) rfl (by kernel_rfl) (by kernel_rfl) (by kernel_rfl) (fun _ _ _ h => h) (Or.inl ⟨by rfl, fun w' hSw => ?_⟩) (by with_reducible assumption) ?_
      · clear hSw
        go_simp
      try simp only [Act.put, List.setIfInBounds_toArray, List.set_cons_zero, List.set_cons_succ]
      refine wpAnyH_take (i := 1) (v := .pointer (some ⟨b, 0, none⟩)) rfl (by kernel_rfl) (by kernel_rfl) (by kernel_rfl) (fun _ _ _ h => h) (Or.inl ⟨by rfl, fun w' hSw => ?_⟩) (by with_reducible assumption) ?_
      · clear hSw
        go_simp
      try simp only [Act.put, List.setIfInBounds_toArray, List.set_cons_zero, List.set_cons_succ]
      refine wpAnyH_take (i := 2) (v := .pointer (some ⟨b, 0, none⟩)) rfl (by kernel_rfl) (by kernel_rfl) (by kernel_rfl) (fun _ _ _ h => h) (Or.inl ⟨by rfl, fun w' hSw => ?_⟩) (by with_reducible assumption) ?_
      · clear hSw
        go_simp
      try simp only [Act.put, List.setIfInBounds_toArray, List.set_cons_zero, List.set_cons_succ]
      refine wpAnyH_take (i := 3) (v := .agg #[.slice al nl cl, x1, x2, .slice ap np cp]) rfl (by kernel_rfl) (by kernel_rfl) (by kernel_rfl) (fun _ _ _ h => h) (Or.inl ⟨by rfl, fun w' hSw => ?_⟩) (by with_reducible assumption) ?_
      · obtain ⟨s0, s1, s2, s3, _⟩ := (HB2.out.keep hSw).cells
        clear hSw
        go_simp
      try simp only [Act.put, List.setIfInBounds_toArray, List.set_cons_zero, List.set_cons_succ]
      refine wpAnyH_take (i := 4) (v := .pointer (some ⟨xb, 1, none⟩)) rfl (by kernel_rfl) (by kernel_rfl) (by kernel_rfl) (fun _ _ _ h => h) (Or.inl ⟨by rfl, fun w' hSw => ?_⟩) (by with_reducible assumption) ?_
      · clear hSw
        go_simp
      try simp only [Act.put, List.setIfInBounds_toArray, List.set_cons_zero, List.set_cons_succ]
      refine wpAnyH_take (i := 5) (v := .int .i64 nm) rfl (by kernel_rfl) (by kernel_rfl) (by kernel_rfl) (fun _ _ _ h => h) (Or.inl ⟨by rfl, fun w' hSw => ?_⟩) (by with_reducible assumption) ?_
      · have s0 := (HX2.out.keep hSw).cells.2
        clear hSw
        go_simp
      try simp only [Act.put, List.setIfInBounds_toArray, List.set_cons_zero, List.set_cons_succ]
      refine wpAnyH_ready (rs := [6]) (by kernel_rfl) (by simp) ?_
      refine AllReadyH.cons (i := 6) rfl (fun K hK => ?_) AllReadyH.nil
      go_simp
      go_wp2_with (go_at_call 38; refine (lOwn_is ps (.slice al nl cl) x1 x2 ap np cp nm _ HPS.out hnp (HP.out.keep (gtrans HK2.out (drew_kept W2)))).mono ?_; rintro e w3 ⟨⟨v, rfl, hv⟩, hk3⟩; have HV := hide1 hv; have HK3 := hide1 (gtrans (drew_kept W2) hk3); clear hv hk3)
      refine hK.out _ _ HK3.out (fun hHeld2 => ?_)
      clear hK K hHeld
      have hHeld := hHeld2
      clear hHeld2
      try simp only [Act.put, List.setIfInBounds_toArray, List.set_cons_zero, List.set_cons_succ]
      refine wpAnyH_take (i := 7) (v := v) rfl (by kernel_rfl) (by kernel_rfl) (by kernel_rfl) (fun _ _ _ h => h) (Or.inl ⟨by rfl, fun w' hSw => ?_⟩) (by with_reducible assumption) ?_
      · clear hSw
        go_simp
      try simp only [Act.put, List.setIfInBounds_toArray, List.set_cons_zero, List.set_cons_succ]
      refine wpAnyH_done (by kernel_rfl) ?_ _
      clear hHeld
      obtain ⟨va, vc, hv⟩ := HV.out.form
      subst hv
      obtain ⟨m, hm⟩ : ∃ m, (natsI (ownTo ps nm ps.length)).length = m := ⟨_, rfl⟩
      rw [hm] at HV ⊢
      have HMM := hide1 hm
      have hm1 : 0 < m := by
        obtain ⟨p, hp, he⟩ := HY3.out.2
        have h := ownTo_has hp he
        rw [← hm]
        unfold natsI
        rw [List.length_map]
        exact List.length_pos_iff.2 h
      have hm5 : m ≤ 512 := by
        rw [← hm]
        unfold natsI
        rw [List.length_map]
        have := ownTo_len ps nm ps.length
        have := HPS.out
        omega
      have HVR := hide1 (HV.out.read (by rw [HMM.out]; omega))
      clear hm
      have gm : (m : Int) ≤ 512 := by omega
      have HB3 := hide1 (HB2.out.keep HK3.out)
      have HO3 := hide1 (HO2.out.keep HK3.out)
      have HK03 := hide1 (gtrans HK2.out HK3.out)
      have HT3 := hide1 (HT2.out.and (TkS.of_kept HK3.out))
      have HX3 := hide1 (HX2.out.keep HK3.out)
      have HVC : Hid (m ≤ vc) := hide1 (by
        obtain ⟨_, _, q1, hc1, _⟩ := SliceOf.len HVR.out
        simp only [Value.slice.injEq] at q1
        obtain ⟨_, _, rfl⟩ := q1
        rw [HMM.out] at hc1
        exact hc1)
      have HB3L : Hid (b < w3.heap.size) := hide1 HB3.out.lt
      clear HX2
      go_upto_region 7 with fail
      refine wp_region_held_drew (S := fun X => KeptBut b w3 X ∧ X.cell? ⟨b, 3, none⟩ = some (.slice ap np cp)) (by kernel_rfl) ⟨but_refl b w3, HB3.out.cells.2.2.2.1⟩ (fun hHeld => ?_)
      refine wpAnyH_take (i := 0) (v := .pointer (some ⟨b, 0, none⟩)) rfl (by kernel_rfl) (by kernel_rfl) (by kernel_rfl) (fun _ _ _ h => h) (Or.inl ⟨by rfl, fun w' hSw => ?_⟩) (by with_reducible assumption) ?_
      · clear hSw
        go_simp
      try simp only [Act.put, List.setIfInBounds_toArray, List.set_cons_zero, List.set_cons_succ]
      refine wpAnyH_take (i := 1) (v := .pointer (some ⟨b, 0, none⟩)) rfl (by kernel_rfl) (by kernel_rfl) (by kernel_rfl) (fun _ _ _ h => h) (Or.inl ⟨by rfl, fun w' hSw => ?_⟩) (by with_reducible assumption) ?_
      · clear hSw
        go_simp
      try simp only [Act.put, List.setIfInBounds_toArray, List.set_cons_zero, List.set_cons_succ]
      refine wpAnyH_take (i := 2) (v := .pointer (some ⟨b, 0, none⟩)) rfl (by kernel_rfl) (by kernel_rfl) (by kernel_rfl) (fun _ _ _ h => h) (Or.inl ⟨by rfl, fun w' hSw => ?_⟩) (by with_reducible assumption) ?_
      · clear hSw
        go_simp
      try simp only [Act.put, List.setIfInBounds_toArray, List.set_cons_zero, List.set_cons_succ]
      refine wpAnyH_take (i := 3) (v := .pointer (some ⟨b, 3, none⟩)) rfl (by kernel_rfl) (by kernel_rfl) (by kernel_rfl) (fun _ _ _ h => h) (Or.inl ⟨by rfl, fun w' hSw => ?_⟩) (by with_reducible assumption) ?_
      · clear hSw
        go_simp
      try simp only [Act.put, List.setIfInBounds_toArray, List.set_cons_zero, List.set_cons_succ]
      refine wpAnyH_take (i := 4) (v := .slice ap np cp) rfl (by kernel_rfl) (by kernel_rfl) (by kernel_rfl) (fun _ _ _ h => h) (Or.inl ⟨by rfl, fun w' hSw => ?_⟩) (by with_reducible assumption) ?_
      · have s0 := hSw.2
        clear hSw
        go_simp
      try simp only [Act.put, List.setIfInBounds_toArray, List.set_cons_zero, List.set_cons_succ]
      refine wpAnyH_take (i := 5) (v := .slice va m vc) rfl (by kernel_rfl) (by kernel_rfl) (by kernel_rfl) (fun _ _ _ h => h) (Or.inl ⟨by rfl, fun w' hSw => ?_⟩) (by with_reducible assumption) ?_
      · clear hSw
        go_simp
      try simp only [Act.put, List.setIfInBounds_toArray, List.set_cons_zero, List.set_cons_succ]
      refine wpAnyH_take (i := 6) (v := .pointer (some ⟨b, 0, none⟩)) rfl (by kernel_rfl) (by kernel_rfl) (by kernel_rfl) (fun _ _ _ h => h) (Or.inl ⟨by rfl, fun w' hSw => ?_⟩) (by with_reducible assumption) ?_
      · clear hSw
        go_simp
      try simp only [Act.put, List.setIfInBounds_toArray, List.set_cons_zero, List.set_cons_succ]
      refine wpAnyH_take (i := 7) (v := .slice va m vc) rfl (by kernel_rfl) (by kernel_rfl) (by kernel_rfl) (fun _ _ _ h => h) (Or.inl ⟨by rfl, fun w' hSw => ?_⟩) (by with_reducible assumption) ?_
      · clear hSw
        go_simp
      try simp only [Act.put, List.setIfInBounds_toArray, List.set_cons_zero, List.set_cons_succ]
      refine wpAnyH_take (i := 8) (v := .int .i64 (m : Int)) rfl (by kernel_rfl) (by kernel_rfl) (by kernel_rfl) (fun _ _ _ h => h) (Or.inl ⟨by rfl, fun w' hSw => ?_⟩) (by with_reducible assumption) ?_
      · clear hSw
        go_simp
      try simp only [Act.put, List.setIfInBounds_toArray, List.set_cons_zero, List.set_cons_succ]
      refine wpAnyH_ready (rs := [9, 14]) (by kernel_rfl) (by simp) ?_
      refine AllReadyH.cons (i := 9) rfl (fun K hK => ?_) (AllReadyH.cons (i := 14) rfl (fun K hK => ?_) AllReadyH.nil)
      · go_simp
        go_wp2_with (go_at_call 39; refine (pick_is _ b (.slice al nl cl) x1 x2 (.slice ap np cp) (.slice oa n oc) ak nk ck at_ m ((st : Int) + 1) pks (HB3.out.keep (drew_kept w3)) (HKK.out.keep (gtrans HK03.out (drew_kept w3))) HPK.out hm1 hm5 (by omega)).mono ?_; rintro e w4 ⟨r, a4, rfl, hr, ha4, hB4, hk4⟩; have HR := hide1 hr; have HA4 := hide1 ha4; have HB4 := hide1 hB4; have HK4 := hide1 hk4; clear hr ha4 hB4 hk4)
        have HK34 : Hid (KeptBut b w3 w4) := hide1 (((drew_kept w3).but b).trans HK4.out)
        refine hK.out _ _ ⟨HK34.out, HB4.out.cells.2.2.2.1⟩ (fun hHeld2 => ?_)
        clear hK K hHeld
        have hHeld := hHeld2
        clear hHeld2
        try simp only [Act.put, List.setIfInBounds_toArray, List.set_cons_zero, List.set_cons_succ]
        obtain ⟨q, hq⟩ : ∃ q, (ownTo ps nm ps.length)[r]? = some q := ⟨_, List.getElem?_eq_getElem (by have h := HMM.out; unfold natsI at h; rw [List.length_map] at h; have := HR.out; omega)⟩
        obtain ⟨p, hp, hpn⟩ := ownTo_mem (List.mem_of_getElem? hq)
        obtain ⟨vb, vo, ev, k0⟩ := HVR.out.at_ (i := r) (x := (q : Int)) (by unfold natsI; rw [List.getElem?_map, hq]; rfl)
        have hvb : vb ≠ b := by have h := (HV.out.lt vb (by rw [ev]; rfl)).1; have h2 := (drew_kept W2).size; have h3 := HB2.out.lt; omega
        subst ev
        have hqn : q < np := by have h := (List.getElem?_eq_some_iff.1 hp).1; have := HPS.out; omega
        obtain ⟨cb, o2, cs, ea, hcb, hlen, hcell, v', hcs, hrt⟩ := SliceOf.el HP.out hp
        subst ea hcs
        obtain ⟨ra, rc, hv', hrc⟩ := SliceOf.len hrt
        subst hv'
        have hcbb : cb ≠ b := by have := HW0.out; omega
        have HC0 : Hid (w3.cell? ⟨cb, o2 + q * 2, none⟩ = some (.int .i64 p.1)) := hide1 (grown_cell HK03.out (hcell 0 _ rfl))
        have HC1 : Hid (w3.cell? ⟨cb, o2 + q * 2 + 1, none⟩ = some (.slice ra p.2.length rc)) := hide1 (grown_cell HK03.out (hcell 1 _ rfl))
        have HC2 := hide1 k0
        have HRT := hide1 hrt
        have HPP := hide1 hp
        have HPN := hide1 hpn
        have HRC := hide1 hrc
        have gr : (r : Int) < (m : Int) := by have := HR.out; omega
        have grc : (r : Int) < (vc : Int) := by have := HR.out; have := HVC.out; omega
        have gq : (q : Int) < (np : Int) := by omega
        have gqc : (q : Int) < (cp : Int) := by obtain ⟨_, _, q1, hc1, _⟩ := HP.out.len; simp only [Value.slice.injEq] at q1; obtain ⟨_, _, rfl⟩ := q1; have := HPS.out; omega
        clear hcell hlen hrt hp hpn hq k0 hrc
        refine wpAnyH_take (i := 10) (v := .pointer (some ⟨vb, vo + r, none⟩)) rfl (by kernel_rfl) (by kernel_rfl) (by kernel_rfl) (fun _ _ _ h => h) (Or.inl ⟨by rfl, fun w' hSw => ?_⟩) (by with_reducible assumption) ?_
        · clear hSw
          go_simp
        try simp only [Act.put, List.setIfInBounds_toArray, List.set_cons_zero, List.set_cons_succ]
        refine wpAnyH_take (i := 11) (v := .int .i64 (q : Int)) rfl (by kernel_rfl) (by kernel_rfl) (by kernel_rfl) (fun _ _ _ h => h) (Or.inl ⟨by rfl, fun w' hSw => ?_⟩) (by with_reducible assumption) ?_
        · have s0 := kb_cell hSw.1 hvb HC2.out
          clear hSw
          go_simp
        try simp only [Act.put, List.setIfInBounds_toArray, List.set_cons_zero, List.set_cons_succ]
        refine wpAnyH_take (i := 12) (v := .pointer (some ⟨cb, o2 + q * 2, none⟩)) rfl (by kernel_rfl) (by kernel_rfl) (by kernel_rfl) (fun _ _ _ h => h) (Or.inl ⟨by rfl, fun w' hSw => ?_⟩) (by with_reducible assumption) ?_
        · clear hSw
          go_simp
        try simp only [Act.put, List.setIfInBounds_toArray, List.set_cons_zero, List.set_cons_succ]
        refine wpAnyH_take (i := 13) (v := .agg #[.int .i64 p.1, .slice ra p.2.length rc]) rfl (by kernel_rfl) (by kernel_rfl) (by kernel_rfl) (fun _ _ _ h => h) (Or.inl ⟨by rfl, fun w' hSw => ?_⟩) (by with_reducible assumption) ?_
        · have s0 := kb_cell hSw.1 hcbb HC0.out
          have s1 := kb_cell hSw.1 hcbb HC1.out
          clear hSw
          go_simp
        try simp only [Act.put, List.setIfInBounds_toArray, List.set_cons_zero, List.set_cons_succ]
        refine wpAnyH_ready (rs := [14]) (by kernel_rfl) (by simp) ?_
        refine AllReadyH.cons (i := 14) rfl (fun K hK => ?_) AllReadyH.nil
        go_simp
        refine hK.out _ _ ⟨HK34.out.trans (((Kept.refl w4).alloc _ _).but b), (HB4.out.keep ((Kept.refl w4).alloc _ _)).cells.2.2.2.1⟩ (fun hHeld2 => ?_)
        clear hK K hHeld
        have hHeld := hHeld2
        clear hHeld2
        try simp only [Act.put, List.setIfInBounds_toArray, List.set_cons_zero, List.set_cons_succ]
        refine wpAnyH_ready (rs := [15]) (by kernel_rfl) (by simp) ?_
        refine AllReadyH.cons (i := 15) rfl (fun K hK => ?_) AllReadyH.nil
        go_simp
        have HCH := hide1 (cho_one (at_ := at_) (st := st + 1) (p := p) (u := .slice ra p.2.length rc) HB4.out HA4.out HK34.out)
        refine hK.out _ _ ⟨HCH.out.2.1, HCH.out.1.choose_spec.2.cells.2.2.2.1⟩ (fun hHeld2 => ?_)
        clear hK K hHeld
        have hHeld := hHeld2
        clear hHeld2
        try simp only [Act.put, List.setIfInBounds_toArray, List.set_cons_zero, List.set_cons_succ]
        refine wpAnyH_done (by kernel_rfl) ?_ _
        clear hHeld
        generalize w4.alloc (.cells #[.int .i64 p.1, .slice ra p.2.length rc] 37) = W5 at HCH ⊢
        generalize w4.heap.size = pb at HCH ⊢
        obtain ⟨a5, ha5, hB5⟩ := HCH.out.1
        have HB5 := hide1 hB5
        have HA5 := hide1 ha5
        have HK35 := hide1 HCH.out.2.1
        have HPB := hide1 HCH.out.2.2.1
        have HPL := hide1 HCH.out.2.2.2
        clear ha5 hB5 HCH
        obtain ⟨nr, hnr⟩ : ∃ nr, p.2.length = nr := ⟨_, rfl⟩
        rw [hnr] at HPB HRC HRT HC1 ⊢
        have HNR := hide1 hnr
        clear hnr
        have gnr : (nr : Int) ≤ 17592186044416 := by have := HRC.out.2; omega
        have hnrc : nr ≤ rc := HRC.out.1
        have HT5 := hide1 (HT3.out.and (TkS.of_but HK35.out))
        have HX5 : Hid (XBox W5 xb 3 nm) := hide1 ((HK35.out.2.2.2.2 xb HX3.out.lt (by omega)).trans HX3.out)
        have HO5 := hide1 (HO3.out.but HK35.out (fun d hd => by have := (HO3.out.lt d hd).1; omega))
        have HK05 := hide1 (KeptBut.up HK03.out (by have := HW0.out; omega) HK35.out)
        have HTP : Hid (Tp W0 b (.slice al nl cl) x1 x2 (.slice (some ⟨cb, o2, none⟩) np cp) (.slice ak nk ck) a5 out (st + 1) (.slice oa n oc) W5) := hide1 ⟨⟨_, _, by rw [HNO.out]⟩, HB5.out, HO5.out, HK05.out, by have := HA5.out; omega, by rw [HNO.out]; omega⟩
        have HN5 := hide1 (HS.out.trip HTP.out (by omega) HT5.out (.inl rfl))
        have HPN1 : Hid (some pb ≠ (Value.slice oa n oc).ownBlock) := hide1 (fun e => by have h := (HO3.out.lt pb e.symm).2; have := HPL.out; omega)
        have HPN2 : Hid (some pb ≠ (Value.slice ma km mc).ownBlock) := hide1 (fun e => by have h := (HM0.out.lt pb e.symm).2; have := HPL.out; have := HT3.out.2.2.2.1; omega)
        have hpb : pb ≠ b := by have := HPL.out; have := HB3L.out; omega
        have hpl : pb ≠ lb := by have := HPL.out; have := HT3.out.2.2.2.1; have := HXB.out; omega
        clear HX3 HTP
        go_wp2_with fail
        go_loopw [9] (NoI W0 b (.slice al nl cl) x1 x2 (.slice (some ⟨cb, o2, none⟩) np cp) (.slice ak nk ck) nl s0 ps lb p out st (.slice oa n oc) ms (.slice ma km mc) W5) (fun i _ => nr - (intOf i).toNat)
        case atStart => exact ⟨0, a5, out, st + 1, .slice oa n oc, ms, .slice ma km mc, rfl, Nat.zero_le _, HN5, Nat.le_refl _, by omega, Nat.le_refl _, ⟨[], [], by simp, by simp, rfl, NotesR.start _ _ _ _ _⟩, Tk2.refl _ _ _ _ _, .inl rfl, .inl rfl⟩
        case round =>
          obtain ⟨i, ai, oi, si, vi, mi, ui, rfl, hi, HNi, hs1, hs4, HCi, HRi, HSi, HWi, HUi⟩ := hrel
          rw [HNR.out] at hi
          have HPr : Hid (PBox wr pb (.int .i64 p.1) (.slice ra nr rc)) := hide1 ((HSi.out.2.2.2.2 pb HPB.out.lt hpb hpl HPN1.out HPN2.out).trans HPB.out)
          obtain ⟨k0, k1⟩ := HPr.out.cells
          by_cases hlt : (i : Int) < (nr : Int)
          · obtain ⟨y, hy⟩ : ∃ y, p.2[i]? = some y := ⟨_, List.getElem?_eq_getElem (by have := HNR.out; omega)⟩
            obtain ⟨yk, yn⟩ := y
            obtain ⟨rb, ro, cs, ea, _, hlen, hcell, hcs⟩ := SliceOf.el (HRT.out.keep HNi.out.1.2.2.2.1) hy
            have hcs : cs = [.int .i64 yk, .int .i64 yn] := hcs
            subst ea hcs
            have e0 : wr.cell? ⟨rb, ro + i * 2, none⟩ = some (.int .i64 yk) := hcell 0 _ rfl
            have e1 : wr.cell? ⟨rb, ro + i * 2 + 1, none⟩ = some (.int .i64 yn) := hcell 1 _ rfl
            have gic : (i : Int) < (rc : Int) := by omega
            have HYI := hide1 ((HIN.out p (List.mem_of_getElem? HPP.out)).2 (yk, yn) (List.mem_of_getElem? hy))
            have HYY := hide1 hy
            clear hcell hlen hy
            go_wp2_with fail
            refine (HIH.out (yk, yn) ai si oi vi mi ui _ (by omega) hs4 HYI.out HNi.out).mono ?_
            rintro e w6 ⟨r6, a6, o6, s6, v6, m6, u6, rfl, hN6, hs6, hs61, hc6, hr6, hS6, hW6, hU6⟩
            have HN6 := hide1 hN6
            have HR6 := hide1 hr6
            have HC6 := hide1 hc6
            have HS6 := hide1 (HSi.out.trans HWi.out HUi.out hS6)
            have HW6 := hide1 (HWi.out.trans hW6 HSi.out.2.2.2.1)
            have HU6 := hide1 (HUi.out.trans hU6 HSi.out.2.2.2.1)
            clear hN6 hr6 hS6 hW6 hU6 hc6 k0 k1 e0 e1
            cases r6 with
            | false =>
              go_wp2_with fail
              go_ret
              exact ⟨false, a6, o6, s6, v6, m6, u6, rfl, HN6.out, by omega, hs61, by have := HC6.out; have := HCi.out; omega, (fun h => by cases h), (Tk2.of_one HT5.out).and HS6.out, OwS.low HW6.out HT5.out.2.2.2.1, OwS.low HU6.out HT5.out.2.2.2.1⟩
            | true =>
              have HRN : Hid (s6 ≤ 400 ∧ ∃ r mr, o6 = out ++ r ∧ m6 = ms ++ mr ∧ RowOf nl (Sen nl ps) (p.2.take (i + 1)) r ∧ NotesR nl s0 ps out.length p (i + 1) r mr) := hide1 (by
                obtain ⟨h1, c, mc, h2, h3, h4, h5⟩ := HR6.out rfl
                obtain ⟨r0, m0, h6, h7, h8, h9⟩ := HRi.out
                refine ⟨h1, r0 ++ c, m0 ++ mc, by rw [h2, h6, List.append_assoc], by rw [h3, h7, List.append_assoc], h8.more HYY.out h4, NotesR.step HPP.out HYY.out h9 h4 ?_⟩
                have e : oi.length = out.length + r0.length := by rw [h6, List.length_append]
                rw [← e]
                exact h5)
              have HCN : Hid (m6.length + (st + 1) ≤ ms.length + s6) := hide1 (by have := HC6.out; have := HCi.out; omega)
              go_wp2_with fail
              go_roundw
              case rel => exact ⟨i + 1, a6, o6, s6, v6, m6, u6, by go_num, by rw [HNR.out]; omega, HN6, by omega, HRN.out.1, HCN, HRN.out.2, HS6, HW6, HU6⟩
              case measure => simp [intOf]; omega
          · have HRN : Hid (∃ c mr, oi = out ++ c ∧ mi = ms ++ mr ∧ SymR nl ps (3, nm) c ∧ NoteR nl s0 ps out.length (3, nm) c (mr ++ [(nm.toNat, oi.length)])) := hide1 (by
              obtain ⟨r0, m0, h6, h7, h5, h9⟩ := HRi.out
              have ei : i = p.2.length := by have := HNR.out; omega
              rw [List.take_of_length_le (by omega)] at h5
              refine ⟨r0, m0, h6, h7, .inl ⟨rfl, ?_⟩, ?_⟩
              · have h := sen_rule HPP.out h5
                rw [HPN.out] at h
                exact h
              · rw [ei] at h9
                have h := NotesR.done (y := (3, nm)) h9 rfl HPN.out
                have e : oi.length = out.length + r0.length := by rw [h6, List.length_append]
                rw [e]
                exact h)
            obtain ⟨⟨⟨ia, ic, hio⟩, hBi, hOi, hKi, hai, hoi⟩, ⟨ja, jc, hju⟩, hLi, hMi, _, hd1i, hd2i, hmli, hmni⟩ := HNi.out
            obtain ⟨n1, hn1⟩ : ∃ n1, oi.length = n1 := ⟨_, rfl⟩
            rw [hn1] at hio hoi HRN
            subst hio
            obtain ⟨j1, hj1⟩ : ∃ j1, mi.length = j1 := ⟨_, rfl⟩
            rw [hj1] at hju hmli
            subst hju
            have HJ1 := hide1 hj1
            have HN1 := hide1 hn1
            have HBi := hide1 hBi
            have HLi := hide1 hLi
            have HMi := hide1 hMi
            have HXi : Hid (XBox wr xb 3 nm) := hide1 ((HSi.out.2.2.2.2 xb HX5.out.lt (by omega) (by omega) HNE.out HNE2.out).trans HX5.out)
            have HNX : Hid (some xb ≠ (Value.slice ja j1 jc).ownBlock) := hide1 (ows_ne HUi.out HX5.out.lt HNE2.out)
            have HNB : Hid (some b ≠ (Value.slice ja j1 jc).ownBlock) := hide1 (fun e => by have h := (HMi.out.lt b e.symm).1; omega)
            have gn1 : (n1 : Int) ≤ 401 := by omega
            have HJ2 : Hid (j1 + 1 ≤ si) := hide1 (by have h := HCi.out; have h1 := HKM.out; rw [HJ1.out] at h; omega)
            clear hj1 hn1 hBi hOi hKi hLi hMi hd1i hd2i hmni hmli
            go_upto_region 13 with fail
            clear k0 k1
            refine wp_region_held_drew (S := fun X => XBox X xb 3 nm ∧ X.cell? ⟨b, 6, none⟩ = some (.slice ia n1 ic)) (by kernel_rfl) ⟨HXi.out, HBi.out.cells.2.2.2.2.2.2.1⟩ (fun hHeld => ?_)
            refine wpAnyH_take (i := 0) (v := .pointer (some ⟨lb, 0, none⟩)) rfl (by kernel_rfl) (by kernel_rfl) (by kernel_rfl) (fun _ _ _ h => h) (Or.inl ⟨by rfl, fun w' hSw => ?_⟩) (by with_reducible assumption) ?_
            · clear hSw
              go_simp
            try simp only [Act.put, List.setIfInBounds_toArray, List.set_cons_zero, List.set_cons_succ]
            refine wpAnyH_take (i := 1) (v := .pointer (some ⟨lb, 0, none⟩)) rfl (by kernel_rfl) (by kernel_rfl) (by kernel_rfl) (fun _ _ _ h => h) (Or.inl ⟨by rfl, fun w' hSw => ?_⟩) (by with_reducible assumption) ?_
            · clear hSw
              go_simp
            try simp only [Act.put, List.setIfInBounds_toArray, List.set_cons_zero, List.set_cons_succ]
            refine wpAnyH_take (i := 2) (v := .pointer (some ⟨lb, 0, none⟩)) rfl (by kernel_rfl) (by kernel_rfl) (by kernel_rfl) (fun _ _ _ h => h) (Or.inl ⟨by rfl, fun w' hSw => ?_⟩) (by with_reducible assumption) ?_
            · clear hSw
              go_simp
            try simp only [Act.put, List.setIfInBounds_toArray, List.set_cons_zero, List.set_cons_succ]
            refine wpAnyH_take (i := 4) (v := .pointer (some ⟨xb, 1, none⟩)) rfl (by kernel_rfl) (by kernel_rfl) (by kernel_rfl) (fun _ _ _ h => h) (Or.inl ⟨by rfl, fun w' hSw => ?_⟩) (by with_reducible assumption) ?_
            · clear hSw
              go_simp
            try simp only [Act.put, List.setIfInBounds_toArray, List.set_cons_zero, List.set_cons_succ]
            refine wpAnyH_take (i := 5) (v := .int .i64 nm) rfl (by kernel_rfl) (by kernel_rfl) (by kernel_rfl) (fun _ _ _ h => h) (Or.inl ⟨by rfl, fun w' hSw => ?_⟩) (by with_reducible assumption) ?_
            · have s0 := (XBox.cells hSw.1).2
              clear hSw
              go_simp
            try simp only [Act.put, List.setIfInBounds_toArray, List.set_cons_zero, List.set_cons_succ]
            refine wpAnyH_take (i := 6) (v := .pointer (some ⟨b, 0, none⟩)) rfl (by kernel_rfl) (by kernel_rfl) (by kernel_rfl) (fun _ _ _ h => h) (Or.inl ⟨by rfl, fun w' hSw => ?_⟩) (by with_reducible assumption) ?_
            · clear hSw
              go_simp
            try simp only [Act.put, List.setIfInBounds_toArray, List.set_cons_zero, List.set_cons_succ]
            refine wpAnyH_take (i := 7) (v := .pointer (some ⟨b, 0, none⟩)) rfl (by kernel_rfl) (by kernel_rfl) (by kernel_rfl) (fun _ _ _ h => h) (Or.inl ⟨by rfl, fun w' hSw => ?_⟩) (by with_reducible assumption) ?_
            · clear hSw
              go_simp
            try simp only [Act.put, List.setIfInBounds_toArray, List.set_cons_zero, List.set_cons_succ]
            refine wpAnyH_take (i := 8) (v := .pointer (some ⟨b, 6, none⟩)) rfl (by kernel_rfl) (by kernel_rfl) (by kernel_rfl) (fun _ _ _ h => h) (Or.inl ⟨by rfl, fun w' hSw => ?_⟩) (by with_reducible assumption) ?_
            · clear hSw
              go_simp
            try simp only [Act.put, List.setIfInBounds_toArray, List.set_cons_zero, List.set_cons_succ]
            refine wpAnyH_take (i := 9) (v := .slice ia n1 ic) rfl (by kernel_rfl) (by kernel_rfl) (by kernel_rfl) (fun _ _ _ h => h) (Or.inl ⟨by rfl, fun w' hSw => ?_⟩) (by with_reducible assumption) ?_
            · have s0 := hSw.2
              clear hSw
              go_simp
            try simp only [Act.put, List.setIfInBounds_toArray, List.set_cons_zero, List.set_cons_succ]
            refine wpAnyH_take (i := 10) (v := .int .i64 (n1 : Int)) rfl (by kernel_rfl) (by kernel_rfl) (by kernel_rfl) (fun _ _ _ h => h) (Or.inl ⟨by rfl, fun w' hSw => ?_⟩) (by with_reducible assumption) ?_
            · clear hSw
              go_simp
            try simp only [Act.put, List.setIfInBounds_toArray, List.set_cons_zero, List.set_cons_succ]
            refine wpAnyH_take (i := 11) (v := .agg #[.int .i64 nm, .int .i64 (n1 : Int)]) rfl (by kernel_rfl) (by kernel_rfl) (by kernel_rfl) (fun _ _ _ h => h) (Or.inl ⟨by rfl, fun w' hSw => ?_⟩) (by with_reducible assumption) ?_
            · clear hSw
              go_simp
            try simp only [Act.put, List.setIfInBounds_toArray, List.set_cons_zero, List.set_cons_succ]
            have HKX : Hid (Kept wr (wr.alloc (.cells #[.int .i64 nm, .int .i64 (n1 : Int)] 52)).drew) := hide1 (gtrans ((Kept.refl wr).alloc _ _) (drew_kept _))
            refine wpAnyH_ready (rs := [3, 12]) (by kernel_rfl) (by simp) ?_
            refine AllReadyH.cons (i := 3) rfl (fun K hK => ?_) (AllReadyH.cons (i := 12) rfl (fun K hK => ?_) AllReadyH.nil)
            · have s0 : wr.drew.cell? ⟨lb, 0, none⟩ = some (.slice ja j1 jc) := (HLi.out.keep (drew_kept wr)).cell
              go_simp
              clear s0
              refine hK.out _ _ hHeld (fun hHeld2 => ?_)
              clear hK K hHeld
              have hHeld := hHeld2
              clear hHeld2
              try simp only [Act.put, List.setIfInBounds_toArray, List.set_cons_zero, List.set_cons_succ]
              refine wpAnyH_ready (rs := [12]) (by kernel_rfl) (by simp) ?_
              refine AllReadyH.cons (i := 12) rfl (fun K hK => ?_) AllReadyH.nil
              go_simp
              refine hK.out _ _ ⟨HXi.out.keep HKX.out, (HBi.out.keep HKX.out).cells.2.2.2.2.2.2.1⟩ (fun hHeld2 => ?_)
              clear hK K hHeld
              have hHeld := hHeld2
              clear hHeld2
              try simp only [Act.put, List.setIfInBounds_toArray, List.set_cons_zero, List.set_cons_succ]
              refine wpAnyH_ready (rs := [13]) (by kernel_rfl) (by simp) ?_
              refine AllReadyH.cons (i := 13) rfl (fun K hK => ?_) AllReadyH.nil
              refine step_made rfl _ _ rfl (wr.alloc (.cells #[.int .i64 nm, .int .i64 (n1 : Int)] 52)).drew (lb + 1) (.slice ja j1 jc) mi j1 HJ1.out rfl (HMi.out.keep HKX.out) wr.heap.size (nm.toNat, n1) rfl (show _ = some (Obj.cells #[.int .i64 ((nm.toNat : Nat) : Int), .int .i64 (n1 : Int)] 52 (0, 0)) from by rw [HNM.out]; exact heap_alloc_new wr _) (by have := HJ2.out; omega) (Nat.le_trans HLi.out.lt HKX.out.size) ?_
              intro g9 c9 w9 ho9 hg9 hor9
              obtain ⟨hL9, hN9, hT9, hW9⟩ := not_put (q := (nm.toNat, n1)) HW0.out HNi.out HJ1.out HJ2.out (by obtain ⟨p, h1, h2⟩ := HY3.out.2; exact ⟨p, h1, by rw [h2]; exact HNM.out.symm⟩) HKX.out hg9 ho9 hor9
              have HX9 : Hid (XBox w9 xb 3 nm) := hide1 ((hg9.block xb (Nat.lt_of_lt_of_le HXi.out.lt HKX.out.size) HNX.out).trans (HXi.out.keep HKX.out))
              have HB9 : Hid (TpB w9 b (.slice al nl cl) x1 x2 (.slice (some ⟨cb, o2, none⟩) np cp) (.slice ak nk ck) ai (.slice ia n1 ic) (si : Int)) := hide1 ((hg9.block b (Nat.lt_of_lt_of_le HBi.out.lt HKX.out.size) HNB.out).trans (HBi.out.keep HKX.out))
              have HL9 := hide1 hL9
              have HN9 := hide1 hN9
              have HT9 := hide1 hT9
              have HW9 := hide1 hW9
              clear ho9 hg9 hor9 hL9 hN9 hT9 hW9
              refine hK.out _ _ ⟨HX9.out, HB9.out.cells.2.2.2.2.2.2.1⟩ (fun hHeld2 => ?_)
              clear hK K hHeld
              have hHeld := hHeld2
              clear hHeld2
              try simp only [Act.put, List.setIfInBounds_toArray, List.set_cons_zero, List.set_cons_succ]
              refine wpAnyH_take (i := 14) (v := .pointer (some ⟨lb, 0, none⟩)) rfl (by kernel_rfl) (by kernel_rfl) (by kernel_rfl) (fun _ _ _ h => h) (Or.inl ⟨by rfl, fun w' hSw => ?_⟩) (by with_reducible assumption) ?_
              · clear hSw
                go_simp
              try simp only [Act.put, List.setIfInBounds_toArray, List.set_cons_zero, List.set_cons_succ]
              refine wpAnyH_ready (rs := [15]) (by kernel_rfl) (by simp) ?_
              refine AllReadyH.cons (i := 15) rfl (fun K hK => ?_) AllReadyH.nil
              have s0 := HL9.out.cell
              have z0 : w9.frozen? ⟨lb, 0, none⟩ = false := by simp [World.frozen?, show w9.heap[lb]? = _ from HL9.out]
              go_simp
              clear s0 z0
              refine hK.out _ _ ⟨show XBox _ _ _ _ from (heap_set_ne (by omega)).trans HX9.out, (TpB.cells (show TpB _ _ _ _ _ _ _ _ _ _ from (heap_set_ne (by omega)).trans HB9.out)).2.2.2.2.2.2.1⟩ (fun hHeld2 => ?_)
              clear hK K hHeld
              have hHeld := hHeld2
              clear hHeld2
              try simp only [Act.put, List.setIfInBounds_toArray, List.set_cons_zero, List.set_cons_succ]
              refine wpAnyH_done (by kernel_rfl) ?_ _
              clear hHeld HX9 HB9 HL9
              generalize w9.setCell ⟨lb, 0, none⟩ (.slice (some ⟨g9, 0, none⟩) (j1 + 1) c9) = W9 at HN9 HT9 ⊢
              go_wp2_with fail
              go_ret
              obtain ⟨c, mr, h1, h2, h4, h5⟩ := HRN.out
              have hlen : (mi ++ [(nm.toNat, n1)]).length = j1 + 1 := by rw [List.length_append, HJ1.out]; rfl
              have hc := HCi.out
              rw [HJ1.out] at hc
              exact ⟨true, ai, oi, si, .slice ia n1 ic, mi ++ [(nm.toNat, n1)], _, rfl, HN9.out, by omega, by omega, by rw [hlen]; omega, fun _ => ⟨hs4, c, mr ++ [(nm.toNat, n1)], h1, by rw [h2, List.append_assoc], h4, h5⟩, ((Tk2.of_one HT5.out).and HSi.out).trans (OwS.low HWi.out HT5.out.2.2.2.1) (OwS.low HUi.out HT5.out.2.2.2.1) HT9.out, OwS.low HWi.out HT5.out.2.2.2.1, (OwS.low HUi.out HT5.out.2.2.2.1).trans HW9.out (Nat.le_trans HT5.out.2.2.2.1 HSi.out.2.2.2.1)⟩
            · go_simp
              refine hK.out _ _ ⟨HXi.out.keep HKX.out, (HBi.out.keep HKX.out).cells.2.2.2.2.2.2.1⟩ (fun hHeld2 => ?_)
              clear hK K hHeld
              have hHeld := hHeld2
              clear hHeld2
              try simp only [Act.put, List.setIfInBounds_toArray, List.set_cons_zero, List.set_cons_succ]
              refine wpAnyH_ready (rs := [3]) (by kernel_rfl) (by simp) ?_
              refine AllReadyH.cons (i := 3) rfl (fun K hK => ?_) AllReadyH.nil
              have s0 : (wr.alloc (.cells #[.int .i64 nm, .int .i64 (n1 : Int)] 52)).cell? ⟨lb, 0, none⟩ = some (.slice ja j1 jc) := (HLi.out.keep ((Kept.refl wr).alloc _ _)).cell
              go_simp
              clear s0
              refine hK.out _ _ hHeld (fun hHeld2 => ?_)
              clear hK K hHeld
              have hHeld := hHeld2
              clear hHeld2
              try simp only [Act.put, List.setIfInBounds_toArray, List.set_cons_zero, List.set_cons_succ]
              refine wpAnyH_ready (rs := [13]) (by kernel_rfl) (by simp) ?_
              refine AllReadyH.cons (i := 13) rfl (fun K hK => ?_) AllReadyH.nil
              refine step_made rfl _ _ rfl (wr.alloc (.cells #[.int .i64 nm, .int .i64 (n1 : Int)] 52)).drew (lb + 1) (.slice ja j1 jc) mi j1 HJ1.out rfl (HMi.out.keep HKX.out) wr.heap.size (nm.toNat, n1) rfl (show _ = some (Obj.cells #[.int .i64 ((nm.toNat : Nat) : Int), .int .i64 (n1 : Int)] 52 (0, 0)) from by rw [HNM.out]; exact heap_alloc_new wr _) (by have := HJ2.out; omega) (Nat.le_trans HLi.out.lt HKX.out.size) ?_
              intro g9 c9 w9 ho9 hg9 hor9
              obtain ⟨hL9, hN9, hT9, hW9⟩ := not_put (q := (nm.toNat, n1)) HW0.out HNi.out HJ1.out HJ2.out (by obtain ⟨p, h1, h2⟩ := HY3.out.2; exact ⟨p, h1, by rw [h2]; exact HNM.out.symm⟩) HKX.out hg9 ho9 hor9
              have HX9 : Hid (XBox w9 xb 3 nm) := hide1 ((hg9.block xb (Nat.lt_of_lt_of_le HXi.out.lt HKX.out.size) HNX.out).trans (HXi.out.keep HKX.out))
              have HB9 : Hid (TpB w9 b (.slice al nl cl) x1 x2 (.slice (some ⟨cb, o2, none⟩) np cp) (.slice ak nk ck) ai (.slice ia n1 ic) (si : Int)) := hide1 ((hg9.block b (Nat.lt_of_lt_of_le HBi.out.lt HKX.out.size) HNB.out).trans (HBi.out.keep HKX.out))
              have HL9 := hide1 hL9
              have HN9 := hide1 hN9
              have HT9 := hide1 hT9
              have HW9 := hide1 hW9
              clear ho9 hg9 hor9 hL9 hN9 hT9 hW9
              refine hK.out _ _ ⟨HX9.out, HB9.out.cells.2.2.2.2.2.2.1⟩ (fun hHeld2 => ?_)
              clear hK K hHeld
              have hHeld := hHeld2
              clear hHeld2
              try simp only [Act.put, List.setIfInBounds_toArray, List.set_cons_zero, List.set_cons_succ]
              refine wpAnyH_take (i := 14) (v := .pointer (some ⟨lb, 0, none⟩)) rfl (by kernel_rfl) (by kernel_rfl) (by kernel_rfl) (fun _ _ _ h => h) (Or.inl ⟨by rfl, fun w' hSw => ?_⟩) (by with_reducible assumption) ?_
              · clear hSw
                go_simp
              try simp only [Act.put, List.setIfInBounds_toArray, List.set_cons_zero, List.set_cons_succ]
              refine wpAnyH_ready (rs := [15]) (by kernel_rfl) (by simp) ?_
              refine AllReadyH.cons (i := 15) rfl (fun K hK => ?_) AllReadyH.nil
              have s0 := HL9.out.cell
              have z0 : w9.frozen? ⟨lb, 0, none⟩ = false := by simp [World.frozen?, show w9.heap[lb]? = _ from HL9.out]
              go_simp
              clear s0 z0
              refine hK.out _ _ ⟨show XBox _ _ _ _ from (heap_set_ne (by omega)).trans HX9.out, (TpB.cells (show TpB _ _ _ _ _ _ _ _ _ _ from (heap_set_ne (by omega)).trans HB9.out)).2.2.2.2.2.2.1⟩ (fun hHeld2 => ?_)
              clear hK K hHeld
              have hHeld := hHeld2
              clear hHeld2
              try simp only [Act.put, List.setIfInBounds_toArray, List.set_cons_zero, List.set_cons_succ]
              refine wpAnyH_done (by kernel_rfl) ?_ _
              clear hHeld HX9 HB9 HL9
              generalize w9.setCell ⟨lb, 0, none⟩ (.slice (some ⟨g9, 0, none⟩) (j1 + 1) c9) = W9 at HN9 HT9 ⊢
              go_wp2_with fail
              go_ret
              obtain ⟨c, mr, h1, h2, h4, h5⟩ := HRN.out
              have hlen : (mi ++ [(nm.toNat, n1)]).length = j1 + 1 := by rw [List.length_append, HJ1.out]; rfl
              have hc := HCi.out
              rw [HJ1.out] at hc
              exact ⟨true, ai, oi, si, .slice ia n1 ic, mi ++ [(nm.toNat, n1)], _, rfl, HN9.out, by omega, by omega, by rw [hlen]; omega, fun _ => ⟨hs4, c, mr ++ [(nm.toNat, n1)], h1, by rw [h2, List.append_assoc], h4, h5⟩, ((Tk2.of_one HT5.out).and HSi.out).trans (OwS.low HWi.out HT5.out.2.2.2.1) (OwS.low HUi.out HT5.out.2.2.2.1) HT9.out, OwS.low HWi.out HT5.out.2.2.2.1, (OwS.low HUi.out HT5.out.2.2.2.1).trans HW9.out (Nat.le_trans HT5.out.2.2.2.1 HSi.out.2.2.2.1)⟩
      · have HKZ : Hid (Kept w3 (w3.alloc (.cells #[.int .i64 0, .slice none 0 0] 37)).drew) := hide1 (gtrans ((Kept.refl w3).alloc _ _) (drew_kept (w3.alloc (.cells #[.int .i64 0, .slice none 0 0] 37))))
        go_simp
        refine hK.out _ _ ⟨HKZ.out.but b, (HB3.out.keep HKZ.out).cells.2.2.2.1⟩ (fun hHeld2 => ?_)
        clear hK K hHeld
        have hHeld := hHeld2
        clear hHeld2
        try simp only [Act.put, List.setIfInBounds_toArray, List.set_cons_zero, List.set_cons_succ]
        refine wpAnyH_ready (rs := [9]) (by kernel_rfl) (by simp) ?_
        refine AllReadyH.cons (i := 9) rfl (fun K hK => ?_) AllReadyH.nil
        go_simp
        go_wp2_with (go_at_call 39; refine (pick_is _ b (.slice al nl cl) x1 x2 (.slice ap np cp) (.slice oa n oc) ak nk ck at_ m ((st : Int) + 1) pks (HB3.out.keep HKZ.out) (HKK.out.keep (gtrans HK03.out HKZ.out)) HPK.out hm1 hm5 (by omega)).mono ?_; rintro e w4 ⟨r, a4, rfl, hr, ha4, hB4, hk4⟩; have HR := hide1 hr; have HA4 := hide1 ha4; have HB4 := hide1 hB4; have HK4 := hide1 hk4; clear hr ha4 hB4 hk4)
        have HK34 : Hid (KeptBut b w3 w4) := hide1 ((HKZ.out.but b).trans HK4.out)
        refine hK.out _ _ ⟨HK34.out, HB4.out.cells.2.2.2.1⟩ (fun hHeld2 => ?_)
        clear hK K hHeld
        have hHeld := hHeld2
        clear hHeld2
        try simp only [Act.put, List.setIfInBounds_toArray, List.set_cons_zero, List.set_cons_succ]
        obtain ⟨q, hq⟩ : ∃ q, (ownTo ps nm ps.length)[r]? = some q := ⟨_, List.getElem?_eq_getElem (by have h := HMM.out; unfold natsI at h; rw [List.length_map] at h; have := HR.out; omega)⟩
        obtain ⟨p, hp, hpn⟩ := ownTo_mem (List.mem_of_getElem? hq)
        obtain ⟨vb, vo, ev, k0⟩ := HVR.out.at_ (i := r) (x := (q : Int)) (by unfold natsI; rw [List.getElem?_map, hq]; rfl)
        have hvb : vb ≠ b := by have h := (HV.out.lt vb (by rw [ev]; rfl)).1; have h2 := (drew_kept W2).size; have h3 := HB2.out.lt; omega
        subst ev
        have hqn : q < np := by have h := (List.getElem?_eq_some_iff.1 hp).1; have := HPS.out; omega
        obtain ⟨cb, o2, cs, ea, hcb, hlen, hcell, v', hcs, hrt⟩ := SliceOf.el HP.out hp
        subst ea hcs
        obtain ⟨ra, rc, hv', hrc⟩ := SliceOf.len hrt
        subst hv'
        have hcbb : cb ≠ b := by have := HW0.out; omega
        have HC0 : Hid (w3.cell? ⟨cb, o2 + q * 2, none⟩ = some (.int .i64 p.1)) := hide1 (grown_cell HK03.out (hcell 0 _ rfl))
        have HC1 : Hid (w3.cell? ⟨cb, o2 + q * 2 + 1, none⟩ = some (.slice ra p.2.length rc)) := hide1 (grown_cell HK03.out (hcell 1 _ rfl))
        have HC2 := hide1 k0
        have HRT := hide1 hrt
        have HPP := hide1 hp
        have HPN := hide1 hpn
        have HRC := hide1 hrc
        have gr : (r : Int) < (m : Int) := by have := HR.out; omega
        have grc : (r : Int) < (vc : Int) := by have := HR.out; have := HVC.out; omega
        have gq : (q : Int) < (np : Int) := by omega
        have gqc : (q : Int) < (cp : Int) := by obtain ⟨_, _, q1, hc1, _⟩ := HP.out.len; simp only [Value.slice.injEq] at q1; obtain ⟨_, _, rfl⟩ := q1; have := HPS.out; omega
        clear hcell hlen hrt hp hpn hq k0 hrc
        refine wpAnyH_take (i := 10) (v := .pointer (some ⟨vb, vo + r, none⟩)) rfl (by kernel_rfl) (by kernel_rfl) (by kernel_rfl) (fun _ _ _ h => h) (Or.inl ⟨by rfl, fun w' hSw => ?_⟩) (by with_reducible assumption) ?_
        · clear hSw
          go_simp
        try simp only [Act.put, List.setIfInBounds_toArray, List.set_cons_zero, List.set_cons_succ]
        refine wpAnyH_take (i := 11) (v := .int .i64 (q : Int)) rfl (by kernel_rfl) (by kernel_rfl) (by kernel_rfl) (fun _ _ _ h => h) (Or.inl ⟨by rfl, fun w' hSw => ?_⟩) (by with_reducible assumption) ?_
        · have s0 := kb_cell hSw.1 hvb HC2.out
          clear hSw
          go_simp
        try simp only [Act.put, List.setIfInBounds_toArray, List.set_cons_zero, List.set_cons_succ]
        refine wpAnyH_take (i := 12) (v := .pointer (some ⟨cb, o2 + q * 2, none⟩)) rfl (by kernel_rfl) (by kernel_rfl) (by kernel_rfl) (fun _ _ _ h => h) (Or.inl ⟨by rfl, fun w' hSw => ?_⟩) (by with_reducible assumption) ?_
        · clear hSw
          go_simp
        try simp only [Act.put, List.setIfInBounds_toArray, List.set_cons_zero, List.set_cons_succ]
        refine wpAnyH_take (i := 13) (v := .agg #[.int .i64 p.1, .slice ra p.2.length rc]) rfl (by kernel_rfl) (by kernel_rfl) (by kernel_rfl) (fun _ _ _ h => h) (Or.inl ⟨by rfl, fun w' hSw => ?_⟩) (by with_reducible assumption) ?_
        · have s0 := kb_cell hSw.1 hcbb HC0.out
          have s1 := kb_cell hSw.1 hcbb HC1.out
          clear hSw
          go_simp
        try simp only [Act.put, List.setIfInBounds_toArray, List.set_cons_zero, List.set_cons_succ]
        have HPZ : Hid (PBox (w3.alloc (.cells #[.int .i64 0, .slice none 0 0] 37)).drew w3.heap.size (.int .i64 0) (.slice none 0 0)) := hide1 ((PBox.new w3 _ _).keep (drew_kept _))
        have HP4 := hide1 (HPZ.out.but HK4.out (by have := HB3L.out; omega))
        have HCH := hide1 (cho_two (at_ := at_) (st := st + 1) (p := p) (u := .slice ra p.2.length rc) (Nat.le_refl _) HB3L.out HKZ.out HPZ.out HB4.out HA4.out HK4.out)
        refine wpAnyH_ready (rs := [15]) (by kernel_rfl) (by simp) ?_
        refine AllReadyH.cons (i := 15) rfl (fun K hK => ?_) AllReadyH.nil
        obtain ⟨s0, s1⟩ := HP4.out.cells
        have z0 := HP4.out.free 0
        have z1 := HP4.out.free 1
        go_simp
        clear s0 s1 z0 z1
        refine hK.out _ _ ⟨HCH.out.2.1, HCH.out.1.choose_spec.2.cells.2.2.2.1⟩ (fun hHeld2 => ?_)
        clear hK K hHeld
        have hHeld := hHeld2
        clear hHeld2
        try simp only [Act.put, List.setIfInBounds_toArray, List.set_cons_zero, List.set_cons_succ]
        refine wpAnyH_done (by kernel_rfl) ?_ _
        clear hHeld
        generalize (w4.setCell ⟨w3.heap.size, 0, none⟩ (.int .i64 p.1)).setCell ⟨w3.heap.size, 1, none⟩ (.slice ra p.2.length rc) = W5 at HCH ⊢
        clear HPZ HP4
        obtain ⟨pb, hpb⟩ : ∃ pb, w3.heap.size = pb := ⟨_, rfl⟩
        have HCH2 : Hid (ChoR w3 b (.slice al nl cl) x1 x2 (.slice (some ⟨cb, o2, none⟩) np cp) (.slice ak nk ck) (.slice oa n oc) at_ (st + 1) p (.slice ra p.2.length rc) pb W5) := hide1 (hpb ▸ HCH.out)
        clear HCH
        have HCH := HCH2
        clear HCH2
        rw [hpb]
        clear hpb
        obtain ⟨a5, ha5, hB5⟩ := HCH.out.1
        have HB5 := hide1 hB5
        have HA5 := hide1 ha5
        have HK35 := hide1 HCH.out.2.1
        have HPB := hide1 HCH.out.2.2.1
        have HPL := hide1 HCH.out.2.2.2
        clear ha5 hB5 HCH
        obtain ⟨nr, hnr⟩ : ∃ nr, p.2.length = nr := ⟨_, rfl⟩
        rw [hnr] at HPB HRC HRT HC1 ⊢
        have HNR := hide1 hnr
        clear hnr
        have gnr : (nr : Int) ≤ 17592186044416 := by have := HRC.out.2; omega
        have hnrc : nr ≤ rc := HRC.out.1
        have HT5 := hide1 (HT3.out.and (TkS.of_but HK35.out))
        have HX5 : Hid (XBox W5 xb 3 nm) := hide1 ((HK35.out.2.2.2.2 xb HX3.out.lt (by omega)).trans HX3.out)
        have HO5 := hide1 (HO3.out.but HK35.out (fun d hd => by have := (HO3.out.lt d hd).1; omega))
        have HK05 := hide1 (KeptBut.up HK03.out (by have := HW0.out; omega) HK35.out)
        have HTP : Hid (Tp W0 b (.slice al nl cl) x1 x2 (.slice (some ⟨cb, o2, none⟩) np cp) (.slice ak nk ck) a5 out (st + 1) (.slice oa n oc) W5) := hide1 ⟨⟨_, _, by rw [HNO.out]⟩, HB5.out, HO5.out, HK05.out, by have := HA5.out; omega, by rw [HNO.out]; omega⟩
        have HN5 := hide1 (HS.out.trip HTP.out (by omega) HT5.out (.inl rfl))
        have HPN1 : Hid (some pb ≠ (Value.slice oa n oc).ownBlock) := hide1 (fun e => by have h := (HO3.out.lt pb e.symm).2; have := HPL.out; omega)
        have HPN2 : Hid (some pb ≠ (Value.slice ma km mc).ownBlock) := hide1 (fun e => by have h := (HM0.out.lt pb e.symm).2; have := HPL.out; have := HT3.out.2.2.2.1; omega)
        have hpb : pb ≠ b := by have := HPL.out; have := HB3L.out; omega
        have hpl : pb ≠ lb := by have := HPL.out; have := HT3.out.2.2.2.1; have := HXB.out; omega
        clear HX3 HTP
        go_wp2_with fail
        go_loopw [9] (NoI W0 b (.slice al nl cl) x1 x2 (.slice (some ⟨cb, o2, none⟩) np cp) (.slice ak nk ck) nl s0 ps lb p out st (.slice oa n oc) ms (.slice ma km mc) W5) (fun i _ => nr - (intOf i).toNat)
        case atStart => exact ⟨0, a5, out, st + 1, .slice oa n oc, ms, .slice ma km mc, rfl, Nat.zero_le _, HN5, Nat.le_refl _, by omega, Nat.le_refl _, ⟨[], [], by simp, by simp, rfl, NotesR.start _ _ _ _ _⟩, Tk2.refl _ _ _ _ _, .inl rfl, .inl rfl⟩
        case round =>
          obtain ⟨i, ai, oi, si, vi, mi, ui, rfl, hi, HNi, hs1, hs4, HCi, HRi, HSi, HWi, HUi⟩ := hrel
          rw [HNR.out] at hi
          have HPr : Hid (PBox wr pb (.int .i64 p.1) (.slice ra nr rc)) := hide1 ((HSi.out.2.2.2.2 pb HPB.out.lt hpb hpl HPN1.out HPN2.out).trans HPB.out)
          obtain ⟨k0, k1⟩ := HPr.out.cells
          by_cases hlt : (i : Int) < (nr : Int)
          · obtain ⟨y, hy⟩ : ∃ y, p.2[i]? = some y := ⟨_, List.getElem?_eq_getElem (by have := HNR.out; omega)⟩
            obtain ⟨yk, yn⟩ := y
            obtain ⟨rb, ro, cs, ea, _, hlen, hcell, hcs⟩ := SliceOf.el (HRT.out.keep HNi.out.1.2.2.2.1) hy
            have hcs : cs = [.int .i64 yk, .int .i64 yn] := hcs
            subst ea hcs
            have e0 : wr.cell? ⟨rb, ro + i * 2, none⟩ = some (.int .i64 yk) := hcell 0 _ rfl
            have e1 : wr.cell? ⟨rb, ro + i * 2 + 1, none⟩ = some (.int .i64 yn) := hcell 1 _ rfl
            have gic : (i : Int) < (rc : Int) := by omega
            have HYI := hide1 ((HIN.out p (List.mem_of_getElem? HPP.out)).2 (yk, yn) (List.mem_of_getElem? hy))
            have HYY := hide1 hy
            clear hcell hlen hy
            go_wp2_with fail
            refine (HIH.out (yk, yn) ai si oi vi mi ui _ (by omega) hs4 HYI.out HNi.out).mono ?_
            rintro e w6 ⟨r6, a6, o6, s6, v6, m6, u6, rfl, hN6, hs6, hs61, hc6, hr6, hS6, hW6, hU6⟩
            have HN6 := hide1 hN6
            have HR6 := hide1 hr6
            have HC6 := hide1 hc6
            have HS6 := hide1 (HSi.out.trans HWi.out HUi.out hS6)
            have HW6 := hide1 (HWi.out.trans hW6 HSi.out.2.2.2.1)
            have HU6 := hide1 (HUi.out.trans hU6 HSi.out.2.2.2.1)
            clear hN6 hr6 hS6 hW6 hU6 hc6 k0 k1 e0 e1
            cases r6 with
            | false =>
              go_wp2_with fail
              go_ret
              exact ⟨false, a6, o6, s6, v6, m6, u6, rfl, HN6.out, by omega, hs61, by have := HC6.out; have := HCi.out; omega, (fun h => by cases h), (Tk2.of_one HT5.out).and HS6.out, OwS.low HW6.out HT5.out.2.2.2.1, OwS.low HU6.out HT5.out.2.2.2.1⟩
            | true =>
              have HRN : Hid (s6 ≤ 400 ∧ ∃ r mr, o6 = out ++ r ∧ m6 = ms ++ mr ∧ RowOf nl (Sen nl ps) (p.2.take (i + 1)) r ∧ NotesR nl s0 ps out.length p (i + 1) r mr) := hide1 (by
                obtain ⟨h1, c, mc, h2, h3, h4, h5⟩ := HR6.out rfl
                obtain ⟨r0, m0, h6, h7, h8, h9⟩ := HRi.out
                refine ⟨h1, r0 ++ c, m0 ++ mc, by rw [h2, h6, List.append_assoc], by rw [h3, h7, List.append_assoc], h8.more HYY.out h4, NotesR.step HPP.out HYY.out h9 h4 ?_⟩
                have e : oi.length = out.length + r0.length := by rw [h6, List.length_append]
                rw [← e]
                exact h5)
              have HCN : Hid (m6.length + (st + 1) ≤ ms.length + s6) := hide1 (by have := HC6.out; have := HCi.out; omega)
              go_wp2_with fail
              go_roundw
              case rel => exact ⟨i + 1, a6, o6, s6, v6, m6, u6, by go_num, by rw [HNR.out]; omega, HN6, by omega, HRN.out.1, HCN, HRN.out.2, HS6, HW6, HU6⟩
              case measure => simp [intOf]; omega
          · have HRN : Hid (∃ c mr, oi = out ++ c ∧ mi = ms ++ mr ∧ SymR nl ps (3, nm) c ∧ NoteR nl s0 ps out.length (3, nm) c (mr ++ [(nm.toNat, oi.length)])) := hide1 (by
              obtain ⟨r0, m0, h6, h7, h5, h9⟩ := HRi.out
              have ei : i = p.2.length := by have := HNR.out; omega
              rw [List.take_of_length_le (by omega)] at h5
              refine ⟨r0, m0, h6, h7, .inl ⟨rfl, ?_⟩, ?_⟩
              · have h := sen_rule HPP.out h5
                rw [HPN.out] at h
                exact h
              · rw [ei] at h9
                have h := NotesR.done (y := (3, nm)) h9 rfl HPN.out
                have e : oi.length = out.length + r0.length := by rw [h6, List.length_append]
                rw [e]
                exact h)
            obtain ⟨⟨⟨ia, ic, hio⟩, hBi, hOi, hKi, hai, hoi⟩, ⟨ja, jc, hju⟩, hLi, hMi, _, hd1i, hd2i, hmli, hmni⟩ := HNi.out
            obtain ⟨n1, hn1⟩ : ∃ n1, oi.length = n1 := ⟨_, rfl⟩
            rw [hn1] at hio hoi HRN
            subst hio
            obtain ⟨j1, hj1⟩ : ∃ j1, mi.length = j1 := ⟨_, rfl⟩
            rw [hj1] at hju hmli
            subst hju
            have HJ1 := hide1 hj1
            have HN1 := hide1 hn1
            have HBi := hide1 hBi
            have HLi := hide1 hLi
            have HMi := hide1 hMi
            have HXi : Hid (XBox wr xb 3 nm) := hide1 ((HSi.out.2.2.2.2 xb HX5.out.lt (by omega) (by omega) HNE.out HNE2.out).trans HX5.out)
            have HNX : Hid (some xb ≠ (Value.slice ja j1 jc).ownBlock) := hide1 (ows_ne HUi.out HX5.out.lt HNE2.out)
            have HNB : Hid (some b ≠ (Value.slice ja j1 jc).ownBlock) := hide1 (fun e => by have h := (HMi.out.lt b e.symm).1; omega)
            have gn1 : (n1 : Int) ≤ 401 := by omega
            have HJ2 : Hid (j1 + 1 ≤ si) := hide1 (by have h := HCi.out; have h1 := HKM.out; rw [HJ1.out] at h; omega)
            clear hj1 hn1 hBi hOi hKi hLi hMi hd1i hd2i hmni hmli
            go_upto_region 13 with fail
            clear k0 k1
            refine wp_region_held_drew (S := fun X => XBox X xb 3 nm ∧ X.cell? ⟨b, 6, none⟩ = some (.slice ia n1 ic)) (by kernel_rfl) ⟨HXi.out, HBi.out.cells.2.2.2.2.2.2.1⟩ (fun hHeld => ?_)
            refine wpAnyH_take (i := 0) (v := .pointer (some ⟨lb, 0, none⟩)) rfl (by kernel_rfl) (by kernel_rfl) (by kernel_rfl) (fun _ _ _ h => h) (Or.inl ⟨by rfl, fun w' hSw => ?_⟩) (by with_reducible assumption) ?_
            · clear hSw
              go_simp
            try simp only [Act.put, List.setIfInBounds_toArray, List.set_cons_zero, List.set_cons_succ]
            refine wpAnyH_take (i := 1) (v := .pointer (some ⟨lb, 0, none⟩)) rfl (by kernel_rfl) (by kernel_rfl) (by kernel_rfl) (fun _ _ _ h => h) (Or.inl ⟨by rfl, fun w' hSw => ?_⟩) (by with_reducible assumption) ?_
            · clear hSw
              go_simp
            try simp only [Act.put, List.setIfInBounds_toArray, List.set_cons_zero, List.set_cons_succ]
            refine wpAnyH_take (i := 2) (v := .pointer (some ⟨lb, 0, none⟩)) rfl (by kernel_rfl) (by kernel_rfl) (by kernel_rfl) (fun _ _ _ h => h) (Or.inl ⟨by rfl, fun w' hSw => ?_⟩) (by with_reducible assumption) ?_
            · clear hSw
              go_simp
            try simp only [Act.put, List.setIfInBounds_toArray, List.set_cons_zero, List.set_cons_succ]
            refine wpAnyH_take (i := 4) (v := .pointer (some ⟨xb, 1, none⟩)) rfl (by kernel_rfl) (by kernel_rfl) (by kernel_rfl) (fun _ _ _ h => h) (Or.inl ⟨by rfl, fun w' hSw => ?_⟩) (by with_reducible assumption) ?_
            · clear hSw
              go_simp
            try simp only [Act.put, List.setIfInBounds_toArray, List.set_cons_zero, List.set_cons_succ]
            refine wpAnyH_take (i := 5) (v := .int .i64 nm) rfl (by kernel_rfl) (by kernel_rfl) (by kernel_rfl) (fun _ _ _ h => h) (Or.inl ⟨by rfl, fun w' hSw => ?_⟩) (by with_reducible assumption) ?_
            · have s0 := (XBox.cells hSw.1).2
              clear hSw
              go_simp
            try simp only [Act.put, List.setIfInBounds_toArray, List.set_cons_zero, List.set_cons_succ]
            refine wpAnyH_take (i := 6) (v := .pointer (some ⟨b, 0, none⟩)) rfl (by kernel_rfl) (by kernel_rfl) (by kernel_rfl) (fun _ _ _ h => h) (Or.inl ⟨by rfl, fun w' hSw => ?_⟩) (by with_reducible assumption) ?_
            · clear hSw
              go_simp
            try simp only [Act.put, List.setIfInBounds_toArray, List.set_cons_zero, List.set_cons_succ]
            refine wpAnyH_take (i := 7) (v := .pointer (some ⟨b, 0, none⟩)) rfl (by kernel_rfl) (by kernel_rfl) (by kernel_rfl) (fun _ _ _ h => h) (Or.inl ⟨by rfl, fun w' hSw => ?_⟩) (by with_reducible assumption) ?_
            · clear hSw
              go_simp
            try simp only [Act.put, List.setIfInBounds_toArray, List.set_cons_zero, List.set_cons_succ]
            refine wpAnyH_take (i := 8) (v := .pointer (some ⟨b, 6, none⟩)) rfl (by kernel_rfl) (by kernel_rfl) (by kernel_rfl) (fun _ _ _ h => h) (Or.inl ⟨by rfl, fun w' hSw => ?_⟩) (by with_reducible assumption) ?_
            · clear hSw
              go_simp
            try simp only [Act.put, List.setIfInBounds_toArray, List.set_cons_zero, List.set_cons_succ]
            refine wpAnyH_take (i := 9) (v := .slice ia n1 ic) rfl (by kernel_rfl) (by kernel_rfl) (by kernel_rfl) (fun _ _ _ h => h) (Or.inl ⟨by rfl, fun w' hSw => ?_⟩) (by with_reducible assumption) ?_
            · have s0 := hSw.2
              clear hSw
              go_simp
            try simp only [Act.put, List.setIfInBounds_toArray, List.set_cons_zero, List.set_cons_succ]
            refine wpAnyH_take (i := 10) (v := .int .i64 (n1 : Int)) rfl (by kernel_rfl) (by kernel_rfl) (by kernel_rfl) (fun _ _ _ h => h) (Or.inl ⟨by rfl, fun w' hSw => ?_⟩) (by with_reducible assumption) ?_
            · clear hSw
              go_simp
            try simp only [Act.put, List.setIfInBounds_toArray, List.set_cons_zero, List.set_cons_succ]
            refine wpAnyH_take (i := 11) (v := .agg #[.int .i64 nm, .int .i64 (n1 : Int)]) rfl (by kernel_rfl) (by kernel_rfl) (by kernel_rfl) (fun _ _ _ h => h) (Or.inl ⟨by rfl, fun w' hSw => ?_⟩) (by with_reducible assumption) ?_
            · clear hSw
              go_simp
            try simp only [Act.put, List.setIfInBounds_toArray, List.set_cons_zero, List.set_cons_succ]
            have HKX : Hid (Kept wr (wr.alloc (.cells #[.int .i64 nm, .int .i64 (n1 : Int)] 52)).drew) := hide1 (gtrans ((Kept.refl wr).alloc _ _) (drew_kept _))
            refine wpAnyH_ready (rs := [3, 12]) (by kernel_rfl) (by simp) ?_
            refine AllReadyH.cons (i := 3) rfl (fun K hK => ?_) (AllReadyH.cons (i := 12) rfl (fun K hK => ?_) AllReadyH.nil)
            · have s0 : wr.drew.cell? ⟨lb, 0, none⟩ = some (.slice ja j1 jc) := (HLi.out.keep (drew_kept wr)).cell
              go_simp
              clear s0
              refine hK.out _ _ hHeld (fun hHeld2 => ?_)
              clear hK K hHeld
              have hHeld := hHeld2
              clear hHeld2
              try simp only [Act.put, List.setIfInBounds_toArray, List.set_cons_zero, List.set_cons_succ]
              refine wpAnyH_ready (rs := [12]) (by kernel_rfl) (by simp) ?_
              refine AllReadyH.cons (i := 12) rfl (fun K hK => ?_) AllReadyH.nil
              go_simp
              refine hK.out _ _ ⟨HXi.out.keep HKX.out, (HBi.out.keep HKX.out).cells.2.2.2.2.2.2.1⟩ (fun hHeld2 => ?_)
              clear hK K hHeld
              have hHeld := hHeld2
              clear hHeld2
              try simp only [Act.put, List.setIfInBounds_toArray, List.set_cons_zero, List.set_cons_succ]
              refine wpAnyH_ready (rs := [13]) (by kernel_rfl) (by simp) ?_
              refine AllReadyH.cons (i := 13) rfl (fun K hK => ?_) AllReadyH.nil
              refine step_made rfl _ _ rfl (wr.alloc (.cells #[.int .i64 nm, .int .i64 (n1 : Int)] 52)).drew (lb + 1) (.slice ja j1 jc) mi j1 HJ1.out rfl (HMi.out.keep HKX.out) wr.heap.size (nm.toNat, n1) rfl (show _ = some (Obj.cells #[.int .i64 ((nm.toNat : Nat) : Int), .int .i64 (n1 : Int)] 52 (0, 0)) from by rw [HNM.out]; exact heap_alloc_new wr _) (by have := HJ2.out; omega) (Nat.le_trans HLi.out.lt HKX.out.size) ?_
              intro g9 c9 w9 ho9 hg9 hor9
              obtain ⟨hL9, hN9, hT9, hW9⟩ := not_put (q := (nm.toNat, n1)) HW0.out HNi.out HJ1.out HJ2.out (by obtain ⟨p, h1, h2⟩ := HY3.out.2; exact ⟨p, h1, by rw [h2]; exact HNM.out.symm⟩) HKX.out hg9 ho9 hor9
              have HX9 : Hid (XBox w9 xb 3 nm) := hide1 ((hg9.block xb (Nat.lt_of_lt_of_le HXi.out.lt HKX.out.size) HNX.out).trans (HXi.out.keep HKX.out))
              have HB9 : Hid (TpB w9 b (.slice al nl cl) x1 x2 (.slice (some ⟨cb, o2, none⟩) np cp) (.slice ak nk ck) ai (.slice ia n1 ic) (si : Int)) := hide1 ((hg9.block b (Nat.lt_of_lt_of_le HBi.out.lt HKX.out.size) HNB.out).trans (HBi.out.keep HKX.out))
              have HL9 := hide1 hL9
              have HN9 := hide1 hN9
              have HT9 := hide1 hT9
              have HW9 := hide1 hW9
              clear ho9 hg9 hor9 hL9 hN9 hT9 hW9
              refine hK.out _ _ ⟨HX9.out, HB9.out.cells.2.2.2.2.2.2.1⟩ (fun hHeld2 => ?_)
              clear hK K hHeld
              have hHeld := hHeld2
              clear hHeld2
              try simp only [Act.put, List.setIfInBounds_toArray, List.set_cons_zero, List.set_cons_succ]
              refine wpAnyH_take (i := 14) (v := .pointer (some ⟨lb, 0, none⟩)) rfl (by kernel_rfl) (by kernel_rfl) (by kernel_rfl) (fun _ _ _ h => h) (Or.inl ⟨by rfl, fun w' hSw => ?_⟩) (by with_reducible assumption) ?_
              · clear hSw
                go_simp
              try simp only [Act.put, List.setIfInBounds_toArray, List.set_cons_zero, List.set_cons_succ]
              refine wpAnyH_ready (rs := [15]) (by kernel_rfl) (by simp) ?_
              refine AllReadyH.cons (i := 15) rfl (fun K hK => ?_) AllReadyH.nil
              have s0 := HL9.out.cell
              have z0 : w9.frozen? ⟨lb, 0, none⟩ = false := by simp [World.frozen?, show w9.heap[lb]? = _ from HL9.out]
              go_simp
              clear s0 z0
              refine hK.out _ _ ⟨show XBox _ _ _ _ from (heap_set_ne (by omega)).trans HX9.out, (TpB.cells (show TpB _ _ _ _ _ _ _ _ _ _ from (heap_set_ne (by omega)).trans HB9.out)).2.2.2.2.2.2.1⟩ (fun hHeld2 => ?_)
              clear hK K hHeld
              have hHeld := hHeld2
              clear hHeld2
              try simp only [Act.put, List.setIfInBounds_toArray, List.set_cons_zero, List.set_cons_succ]
              refine wpAnyH_done (by kernel_rfl) ?_ _
              clear hHeld HX9 HB9 HL9
              generalize w9.setCell ⟨lb, 0, none⟩ (.slice (some ⟨g9, 0, none⟩) (j1 + 1) c9) = W9 at HN9 HT9 ⊢
              go_wp2_with fail
              go_ret
              obtain ⟨c, mr, h1, h2, h4, h5⟩ := HRN.out
              have hlen : (mi ++ [(nm.toNat, n1)]).length = j1 + 1 := by rw [List.length_append, HJ1.out]; rfl
              have hc := HCi.out
              rw [HJ1.out] at hc
              exact ⟨true, ai, oi, si, .slice ia n1 ic, mi ++ [(nm.toNat, n1)], _, rfl, HN9.out, by omega, by omega, by rw [hlen]; omega, fun _ => ⟨hs4, c, mr ++ [(nm.toNat, n1)], h1, by rw [h2, List.append_assoc], h4, h5⟩, ((Tk2.of_one HT5.out).and HSi.out).trans (OwS.low HWi.out HT5.out.2.2.2.1) (OwS.low HUi.out HT5.out.2.2.2.1) HT9.out, OwS.low HWi.out HT5.out.2.2.2.1, (OwS.low HUi.out HT5.out.2.2.2.1).trans HW9.out (Nat.le_trans HT5.out.2.2.2.1 HSi.out.2.2.2.1)⟩
            · go_simp
              refine hK.out _ _ ⟨HXi.out.keep HKX.out, (HBi.out.keep HKX.out).cells.2.2.2.2.2.2.1⟩ (fun hHeld2 => ?_)
              clear hK K hHeld
              have hHeld := hHeld2
              clear hHeld2
              try simp only [Act.put, List.setIfInBounds_toArray, List.set_cons_zero, List.set_cons_succ]
              refine wpAnyH_ready (rs := [3]) (by kernel_rfl) (by simp) ?_
              refine AllReadyH.cons (i := 3) rfl (fun K hK => ?_) AllReadyH.nil
              have s0 : (wr.alloc (.cells #[.int .i64 nm, .int .i64 (n1 : Int)] 52)).cell? ⟨lb, 0, none⟩ = some (.slice ja j1 jc) := (HLi.out.keep ((Kept.refl wr).alloc _ _)).cell
              go_simp
              clear s0
              refine hK.out _ _ hHeld (fun hHeld2 => ?_)
              clear hK K hHeld
              have hHeld := hHeld2
              clear hHeld2
              try simp only [Act.put, List.setIfInBounds_toArray, List.set_cons_zero, List.set_cons_succ]
              refine wpAnyH_ready (rs := [13]) (by kernel_rfl) (by simp) ?_
              refine AllReadyH.cons (i := 13) rfl (fun K hK => ?_) AllReadyH.nil
              refine step_made rfl _ _ rfl (wr.alloc (.cells #[.int .i64 nm, .int .i64 (n1 : Int)] 52)).drew (lb + 1) (.slice ja j1 jc) mi j1 HJ1.out rfl (HMi.out.keep HKX.out) wr.heap.size (nm.toNat, n1) rfl (show _ = some (Obj.cells #[.int .i64 ((nm.toNat : Nat) : Int), .int .i64 (n1 : Int)] 52 (0, 0)) from by rw [HNM.out]; exact heap_alloc_new wr _) (by have := HJ2.out; omega) (Nat.le_trans HLi.out.lt HKX.out.size) ?_
              intro g9 c9 w9 ho9 hg9 hor9
              obtain ⟨hL9, hN9, hT9, hW9⟩ := not_put (q := (nm.toNat, n1)) HW0.out HNi.out HJ1.out HJ2.out (by obtain ⟨p, h1, h2⟩ := HY3.out.2; exact ⟨p, h1, by rw [h2]; exact HNM.out.symm⟩) HKX.out hg9 ho9 hor9
              have HX9 : Hid (XBox w9 xb 3 nm) := hide1 ((hg9.block xb (Nat.lt_of_lt_of_le HXi.out.lt HKX.out.size) HNX.out).trans (HXi.out.keep HKX.out))
              have HB9 : Hid (TpB w9 b (.slice al nl cl) x1 x2 (.slice (some ⟨cb, o2, none⟩) np cp) (.slice ak nk ck) ai (.slice ia n1 ic) (si : Int)) := hide1 ((hg9.block b (Nat.lt_of_lt_of_le HBi.out.lt HKX.out.size) HNB.out).trans (HBi.out.keep HKX.out))
              have HL9 := hide1 hL9
              have HN9 := hide1 hN9
              have HT9 := hide1 hT9
              have HW9 := hide1 hW9
              clear ho9 hg9 hor9 hL9 hN9 hT9 hW9
              refine hK.out _ _ ⟨HX9.out, HB9.out.cells.2.2.2.2.2.2.1⟩ (fun hHeld2 => ?_)
              clear hK K hHeld
              have hHeld := hHeld2
              clear hHeld2
              try simp only [Act.put, List.setIfInBounds_toArray, List.set_cons_zero, List.set_cons_succ]
              refine wpAnyH_take (i := 14) (v := .pointer (some ⟨lb, 0, none⟩)) rfl (by kernel_rfl) (by kernel_rfl) (by kernel_rfl) (fun _ _ _ h => h) (Or.inl ⟨by rfl, fun w' hSw => ?_⟩) (by with_reducible assumption) ?_
              · clear hSw
                go_simp
              try simp only [Act.put, List.setIfInBounds_toArray, List.set_cons_zero, List.set_cons_succ]
              refine wpAnyH_ready (rs := [15]) (by kernel_rfl) (by simp) ?_
              refine AllReadyH.cons (i := 15) rfl (fun K hK => ?_) AllReadyH.nil
              have s0 := HL9.out.cell
              have z0 : w9.frozen? ⟨lb, 0, none⟩ = false := by simp [World.frozen?, show w9.heap[lb]? = _ from HL9.out]
              go_simp
              clear s0 z0
              refine hK.out _ _ ⟨show XBox _ _ _ _ from (heap_set_ne (by omega)).trans HX9.out, (TpB.cells (show TpB _ _ _ _ _ _ _ _ _ _ from (heap_set_ne (by omega)).trans HB9.out)).2.2.2.2.2.2.1⟩ (fun hHeld2 => ?_)
              clear hK K hHeld
              have hHeld := hHeld2
              clear hHeld2
              try simp only [Act.put, List.setIfInBounds_toArray, List.set_cons_zero, List.set_cons_succ]
              refine wpAnyH_done (by kernel_rfl) ?_ _
              clear hHeld HX9 HB9 HL9
              generalize w9.setCell ⟨lb, 0, none⟩ (.slice (some ⟨g9, 0, none⟩) (j1 + 1) c9) = W9 at HN9 HT9 ⊢
              go_wp2_with fail
              go_ret
              obtain ⟨c, mr, h1, h2, h4, h5⟩ := HRN.out
              have hlen : (mi ++ [(nm.toNat, n1)]).length = j1 + 1 := by rw [List.length_append, HJ1.out]; rfl
              have hc := HCi.out
              rw [HJ1.out] at hc
              exact ⟨true, ai, oi, si, .slice ia n1 ic, mi ++ [(nm.toNat, n1)], _, rfl, HN9.out, by omega, by omega, by rw [hlen]; omega, fun _ => ⟨hs4, c, mr ++ [(nm.toNat, n1)], h1, by rw [h2, List.append_assoc], h4, h5⟩, ((Tk2.of_one HT5.out).and HSi.out).trans (OwS.low HWi.out HT5.out.2.2.2.1) (OwS.low HUi.out HT5.out.2.2.2.1) HT9.out, OwS.low HWi.out HT5.out.2.2.2.1, (OwS.low HUi.out HT5.out.2.2.2.1).trans HW9.out (Nat.le_trans HT5.out.2.2.2.1 HSi.out.2.2.2.1)⟩
  · have hb3 : (kd != 3) = true := by simpa using h3
    obtain ⟨d0, d1⟩ := HX.out.cells
    go_wp2_with fail
    refine (HMK.out (kd, nm) at_ st out (.slice oa n oc) _ (by omega) hst HY.out HS1.out.1).mono ?_
    rintro e w6 ⟨r6, a6, o6, s6, v6, rfl, hT6, hs6, hs61, hr6, hS6, hW6⟩
    have HN6 := hide1 (HS1.out.trip hT6 hs6 hS6 hW6)
    have HR6 := hide1 hr6
    have HT6 := hide1 ((TkS.of_kept HKa.out).and hS6)
    have HW6 := hide1 (OwS.low hW6 HKa.out.size)
    clear hT6 hr6 hS6 hW6 d0 d1
    go_wp2_with fail
    go_ret
    refine ⟨r6, a6, o6, s6, v6, ms, .slice ma km mc, rfl, HN6.out, hs6, hs61, by omega, fun h => ?_, Tk2.of_one HT6.out, HW6.out, .inl rfl⟩
    obtain ⟨h1, c, h2, h3⟩ := HR6.out h
    exact ⟨h1, c, [], h2, by simp, h3, NoteR.term _ _ _ _ _ _⟩
theorem not_all (W0 : World) (b : Nat) (x1 x2 : Value) (al ap ak : Option Addr) (nl cl np cp nk ck s0 lb : Nat) (ps : List ProdM) (pks : List Int) (hW0 : W0.heap.size = b) (hnl : nl ≤ 64) (hnp : np ≤ 512) (hps : ps.length = np) (hpk : pks.length = nk) (hp : ProdsAt W0 (.slice ap np cp) ps) (hk : IntsR W0 (.slice ak nk ck) pks) (hin : ∀ p ∈ ps, (0 ≤ p.1) ∧ ∀ y ∈ p.2, SymIn ps y) : ∀ N, NotC W0 b (.slice al nl cl) x1 x2 (.slice ap np cp) (.slice ak nk ck) nl s0 ps lb N
  | 0 => fun _ _ st _ _ _ _ _ h1 h2 _ _ => absurd h1 (by omega)
  | N + 1 => not_step W0 b x1 x2 al ap ak nl cl np cp nk ck s0 lb ps pks N hW0 hnp hps hpk hp hk hin (mak_all W0 b x1 x2 al ap ak nl cl np cp nk ck ps pks hW0 hnl hnp hps hpk hp hk hin 401) (not_all W0 b x1 x2 al ap ak nl cl np cp nk ck s0 lb ps pks hW0 hnl hnp hps hpk hp hk hin N)

end Ex
end Go.Proofs.YtjomglclefbffaaDoor
