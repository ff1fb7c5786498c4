import Derived.Test.YtooelfjceehmmaaDoorMSpCp
namespace Go.Proofs.YtooelfjceehmmaaDoor
open Go.RowKit
attribute [local go_sem] Oper.semAt_some
namespace Ex

def EsI (ps : List ProdM) (v0 : Nat → Nat) (d : Nat) (W : World) (vi : Value) (wr : World) : Prop := ∃ (j : Nat) (v : Nat → Nat), vi = .int .i64 (j : Int) ∧ j ≤ ps.length ∧ Hid (EzStep ps v0 v j) ∧ Hid ((∀ n, v n ≤ 257) ∧ ∀ n, 128 ≤ n → v n = v0 n) ∧ Hid (SzB wr d v) ∧ Hid (KeptBut d W wr)
/-- The same numbers, of the first 128 names. -/
def eqV (v v' : Nat → Nat) : Bool := (List.range 128).all fun i => v i == v' i
def EsR (ps : List ProdM) (v0 : Nat → Nat) (d : Nat) (w : World) (e : Ending) (w' : World) : Prop := ∃ v, EzStep ps v0 v ps.length ∧ ((∀ n, v n ≤ 257) ∧ ∀ n, 128 ≤ n → v n = v0 n) ∧ e = .returned (.bool (!eqV v v0)) ∧ SzB w' d v ∧ KeptBut d w w'
theorem exec_load_row {P : Program} (ρ : Operand → Value) (o : Oper) (ty : TypeId) (x : Operand) (g : Nat) (cs : Array Value) (w : World) (ho : o.op = .load ty x) (hx : ρ x = .pointer (some ⟨g, 0, none⟩)) (hl : (loadVar ty ⟨g, 0, none⟩).run P w = .ok (.agg cs) w) : (execOp ρ o).run P w = .ok (.value (.agg cs)) w := by
  unfold execOp
  simp only [ho, hx, Instr.loadAt, Instr.sureAddr, Sem.run_bind, Sem.run_pure, Result.andThen_ok, hl]
theorem setRow_butS (w : World) (b : Nat) (cs : Array Value) : KeptBut b w (w.setRow b cs) := ⟨rfl, rfl, rfl, by simp, fun k _ hn => setRow_other w b k cs hn⟩
theorem EzStep.putV {ps : List ProdM} {old v : Nat → Nat} {j : Nat} (h : EzStep ps old v j) {p : ProdM} (hp : ps[j]? = some p) {l m : Nat} (hl : p.1.toNat = l) (hm : m = min (v l) (treeC v p.2 1)) : EzStep ps old (putV v l m) (j + 1) :=
  h.put hp (by unfold Ex.putV; rw [hl, if_pos rfl, hm]) (fun n hn => by unfold Ex.putV; rw [if_neg (by rw [← hl]; exact hn)])
theorem putV_le {v : Nat → Nat} (h : ∀ n, v n ≤ 257) {l m : Nat} (hm : m ≤ 257) (n : Nat) : putV v l m n ≤ 257 := by
  unfold putV
  split
  · exact hm
  · exact h n
set_option linter.unusedSimpArgs false in
set_option maxRecDepth 100000 in
set_option maxHeartbeats 8000000 in
theorem esStep_is (d g : Nat) (v0 : Nat → Nat) (ps : List ProdM) (x0 x1 x2 : Value) (ap : Option Addr) (np cp : Nat) (w0 w : World) (hv0 : ∀ n, v0 n ≤ 257) (hps : ps.length = np) (hA : SzB w d v0) (hg : SBox w g x0 x1 x2 (.slice ap np cp)) (hp : ProdsAt w0 (.slice ap np cp) ps) (hk : Kept w0 w) (hd : w0.heap.size ≤ d) (hgd : g ≠ d) (hok : ∀ p ∈ ps, ProdOk p) (hne : ∀ (v : Nat → Nat) (w : World), (binOp .neq 140 (.agg (szV v)) (.agg (szV v0))).run Tryd.prog w = .ok (.bool (!eqV v v0)) w) :
    Calls Tryd.prog 99 #[.pointer (some ⟨d, 0, none⟩), .pointer (some ⟨g, 0, none⟩)] w (EsR ps v0 d w) := by
  have HPS := hide1 hps
  have HV0 := hide1 hv0
  have HP := hide1 hp
  have HK0 := hide1 hk
  have HD := hide1 hd
  have HGD := hide1 hgd
  have HOK := hide1 hok
  have HA := hide1 hA
  have HG := hide1 hg
  have HNE := hide1 hne
  obtain ⟨_, _, e1, hc, hn⟩ := hp.len
  simp only [Value.slice.injEq] at e1
  obtain ⟨rfl, en, rfl⟩ := e1
  clear en
  rw [hps] at hc hn
  have gn : (np : Int) ≤ 17592186044416 := by omega
  clear hps hA hg hp hk hd hgd hok hv0 hne
  go_enter Tryd.func99, Tryd.ntmps99
  go_upto_region 1 with fail
  have HK1 : Hid (Kept w (w.alloc (.cells (szV fun _ => 0) 140))) := (Kept.refl w).alloc _ _
  have HO1 := hide1 (SzB.new w (fun _ => 0))
  have HOD : Hid (w.heap.size ≠ d) := Nat.ne_of_gt HA.out.lt
  go_upto_region 2 with (first
    | (refine wpList_load_row rfl 140 _ rfl d rfl 140 (szV v0) (0, 0) _ HA.out Tryd.underlying140 rfl (sz_size v0) ?_)
    | (refine wpList_store_row rfl 140 _ _ rfl w.heap.size (szV v0) rfl rfl 140 (szV fun _ => 0) (by first | exact HO1.out | exact sz_zero w) (sz_size v0) (by rw [szV_size, szV_size]) (szV_one v0) ?_))
  have HO2 : Hid (SzB ((w.alloc (.cells Tryd.zeroCells140 140)).setRow w.heap.size (szV v0)) w.heap.size v0) := setRow_heap _ _ _ _ _ _ (sz_zero w)
  have HK2 : Hid (Kept w ((w.alloc (.cells Tryd.zeroCells140 140)).setRow w.heap.size (szV v0))) := KeptBut.up ((Kept.refl w).alloc _ _) (Nat.le_refl _) (setRow_butS _ _ _)
  clear HK1 HO1
  obtain ⟨W, hW⟩ : ∃ W, (w.alloc (.cells Tryd.zeroCells140 140)).setRow w.heap.size (szV v0) = W := ⟨_, rfl⟩
  rw [hW] at HO2 HK2 ⊢
  clear hW
  obtain ⟨ob, hob⟩ : ∃ ob, w.heap.size = ob := ⟨_, rfl⟩
  rw [hob] at HO2 HOD ⊢
  clear hob
  have HA2 := hide1 (HA.out.keep HK2.out)
  have HG2 := hide1 (HG.out.keep HK2.out)
  obtain ⟨s0, s1, s2, s3⟩ := HG2.out.facts
  go_wp2_with fail
  clear s0 s1 s2 s3
  go_loopw [13] (EsI ps v0 d W) (fun i _ => np - (intOf i).toNat)
  case atStart => exact ⟨0, v0, rfl, Nat.zero_le _, EzStep.start ps v0, ⟨HV0.out, fun _ _ => rfl⟩, HA2, but_refl d W⟩
  case round =>
    obtain ⟨j, v, rfl, hj, HM, HVV, HSr, HKr⟩ := hrel
    have HV := hide1 HVV.out.1
    rw [HPS.out] at hj
    by_cases hlt : (j : Int) < (np : Int)
    · obtain ⟨p, hp⟩ : ∃ p, ps[j]? = some p := ⟨_, List.getElem?_eq_getElem (by have := HPS.out; omega)⟩
      have HKw := hide1 (KeptBut.up (gtrans HK0.out HK2.out) HD.out HKr.out)
      obtain ⟨cb, o2, cs, ea, hcb, hlen, hcell, v', hcs, hrt⟩ := SliceOf.el (HP.out.keep HKw.out) hp
      subst ea hcs
      have k0 : wr.cell? ⟨cb, o2 + j * 2, none⟩ = some (.int .i64 p.1) := hcell 0 _ rfl
      have k1 := hcell 1 _ rfl
      have gjc : (j : Int) < (cp : Int) := by omega
      have HOKp := hide1 (HOK.out p (List.mem_of_getElem? hp))
      have HPJ := hide1 hp
      obtain ⟨ar, cr, rfl, hcr, hnr⟩ := hrt.len
      obtain ⟨nr, hnr2⟩ : ∃ nr, p.2.length = nr := ⟨_, rfl⟩
      rw [hnr2] at hrt hcr hnr k1
      have HNR := hide1 hnr2
      have HRT := hide1 hrt
      obtain ⟨l, hl⟩ : ∃ l : Nat, p.1 = (l : Int) := ⟨p.1.toNat, by have := HOKp.out.1.1; omega⟩
      have HLE : Hid (p.1.toNat = l) := by show _ = _; omega
      have HL : Hid (l < 128) := by have := HOKp.out.1; show _ < _; omega
      rw [hl] at k0
      clear hp hcell hrt hnr2 hl
      have HPB := hide1 (PBox.new wr (.int .i64 (l : Int)) (.slice ar nr cr))
      have HK4 : Hid (Kept wr (wr.alloc (.cells #[.int .i64 (l : Int), .slice ar nr cr] 40))) := (Kept.refl wr).alloc _ _
      have HPBD : Hid (wr.heap.size ≠ d) := Nat.ne_of_gt HSr.out.lt
      go_upto_region 5 with fail
      clear k0 k1
      obtain ⟨W4, hW4⟩ : ∃ W4, wr.alloc (.cells #[.int .i64 (l : Int), .slice ar nr cr] 40) = W4 := ⟨_, rfl⟩
      rw [hW4] at HPB HK4 ⊢
      clear hW4
      obtain ⟨pb, hpb⟩ : ∃ pb, wr.heap.size = pb := ⟨_, rfl⟩
      rw [hpb] at HPB HPBD ⊢
      clear hpb
      have HS4 := hide1 (HSr.out.keep HK4.out)
      have gl8 : (l : Int) < 128 := by have := HL.out; omega
      obtain ⟨T, hT⟩ : ∃ T, treeC v p.2 1 = T := ⟨_, rfl⟩
      obtain ⟨z, hz⟩ : ∃ z, v l = z := ⟨_, rfl⟩
      have HT := hide1 hT
      have HZ := hide1 hz
      have HZ2 : Hid (z ≤ 257) := hz ▸ HV.out l
      obtain ⟨m, hm⟩ : ∃ m, m = min z T := ⟨_, rfl⟩
      have HMP := hide1 (HM.out.putV HPJ.out HLE.out (show m = min (v l) (treeC v p.2 1) by rw [hT, hz]; exact hm))
      have HMV : Hid ((∀ n, putV v l m n ≤ 257) ∧ ∀ n, 128 ≤ n → putV v l m n = v0 n) := ⟨putV_le HV.out (l := l) (show m ≤ 257 by have := HZ2.out; omega), fun n hn => by unfold putV; rw [if_neg (by have := HL.out; omega)]; exact HVV.out.2 n hn⟩
      have hmI : (if T < z then (T : Int) else (z : Int)) = (m : Int) := by split <;> omega
      clear hT hz hm
      refine wp_region_held_drew (S := fun X => KeptBut d W4 X) (by kernel_rfl) (but_refl d W4) (fun hHeld => ?_)
      refine wpAnyH_take (i := 0) (v := .pointer (some ⟨d, 0, none⟩)) rfl (by kernel_rfl) (by kernel_rfl) (by kernel_rfl) (fun _ _ _ h => h) (Or.inl ⟨by rfl, fun w' hSw => ?_⟩) (by with_reducible assumption) ?_
      · clear hSw
        go_simp
      try simp only [Act.put, List.setIfInBounds_toArray, List.set_cons_zero, List.set_cons_succ]
      refine wpAnyH_take (i := 1) (v := .pointer (some ⟨pb, 0, none⟩)) rfl (by kernel_rfl) (by kernel_rfl) (by kernel_rfl) (fun _ _ _ h => h) (Or.inl ⟨by rfl, fun w' hSw => ?_⟩) (by with_reducible assumption) ?_
      · clear hSw
        go_simp
      try simp only [Act.put, List.setIfInBounds_toArray, List.set_cons_zero, List.set_cons_succ]
      refine wpAnyH_take (i := 2) (v := .int .i64 (l : Int)) rfl (by kernel_rfl) (by kernel_rfl) (by kernel_rfl) (fun _ _ _ h => h) (Or.inl ⟨by rfl, fun w' hSw => ?_⟩) (by with_reducible assumption) ?_
      · have s0 := (PBox.but HPB.out hSw HPBD.out).cells.1
        clear hSw
        go_simp
      try simp only [Act.put, List.setIfInBounds_toArray, List.set_cons_zero, List.set_cons_succ]
      refine wpAnyH_take (i := 3) (v := .pointer (some ⟨d, 0, none⟩)) rfl (by kernel_rfl) (by kernel_rfl) (by kernel_rfl) (fun _ _ _ h => h) (Or.inl ⟨by rfl, fun w' hSw => ?_⟩) (by with_reducible assumption) ?_
      · clear hSw
        go_simp
      try simp only [Act.put, List.setIfInBounds_toArray, List.set_cons_zero, List.set_cons_succ]
      refine wpAnyH_take (i := 4) (v := .pointer (some ⟨pb, 0, none⟩)) rfl (by kernel_rfl) (by kernel_rfl) (by kernel_rfl) (fun _ _ _ h => h) (Or.inl ⟨by rfl, fun w' hSw => ?_⟩) (by with_reducible assumption) ?_
      · clear hSw
        go_simp
      try simp only [Act.put, List.setIfInBounds_toArray, List.set_cons_zero, List.set_cons_succ]
      refine wpAnyH_take (i := 5) (v := .int .i64 (l : Int)) rfl (by kernel_rfl) (by kernel_rfl) (by kernel_rfl) (fun _ _ _ h => h) (Or.inl ⟨by rfl, fun w' hSw => ?_⟩) (by with_reducible assumption) ?_
      · have s0 := (PBox.but HPB.out hSw HPBD.out).cells.1
        clear hSw
        go_simp
      try simp only [Act.put, List.setIfInBounds_toArray, List.set_cons_zero, List.set_cons_succ]
      refine wpAnyH_take (i := 6) (v := .pointer (some ⟨d, 0, none⟩)) rfl (by kernel_rfl) (by kernel_rfl) (by kernel_rfl) (fun _ _ _ h => h) (Or.inl ⟨by rfl, fun w' hSw => ?_⟩) (by with_reducible assumption) ?_
      · clear hSw
        go_simp
      try simp only [Act.put, List.setIfInBounds_toArray, List.set_cons_zero, List.set_cons_succ]
      refine wpAnyH_take (i := 7) (v := .pointer (some ⟨d, l, none⟩)) rfl (by kernel_rfl) (by kernel_rfl) (by kernel_rfl) (fun _ _ _ h => h) (Or.inl ⟨by rfl, fun w' hSw => ?_⟩) (by with_reducible assumption) ?_
      · clear hSw
        go_simp
      try simp only [Act.put, List.setIfInBounds_toArray, List.set_cons_zero, List.set_cons_succ]
      refine wpAnyH_take (i := 9) (v := .pointer (some ⟨d, 0, none⟩)) rfl (by kernel_rfl) (by kernel_rfl) (by kernel_rfl) (fun _ _ _ h => h) (Or.inl ⟨by rfl, fun w' hSw => ?_⟩) (by with_reducible assumption) ?_
      · clear hSw
        go_simp
      try simp only [Act.put, List.setIfInBounds_toArray, List.set_cons_zero, List.set_cons_succ]
      refine wpAnyH_take (i := 10) (v := .pointer (some ⟨pb, 1, none⟩)) rfl (by kernel_rfl) (by kernel_rfl) (by kernel_rfl) (fun _ _ _ h => h) (Or.inl ⟨by rfl, fun w' hSw => ?_⟩) (by with_reducible assumption) ?_
      · clear hSw
        go_simp
      try simp only [Act.put, List.setIfInBounds_toArray, List.set_cons_zero, List.set_cons_succ]
      refine wpAnyH_take (i := 11) (v := .slice ar nr cr) rfl (by kernel_rfl) (by kernel_rfl) (by kernel_rfl) (fun _ _ _ h => h) (Or.inl ⟨by rfl, fun w' hSw => ?_⟩) (by with_reducible assumption) ?_
      · have s0 := (PBox.but HPB.out hSw HPBD.out).cells.2
        clear hSw
        go_simp
      try simp only [Act.put, List.setIfInBounds_toArray, List.set_cons_zero, List.set_cons_succ]
      refine wpAnyH_take (i := 14) (v := .pointer (some ⟨d, 0, none⟩)) rfl (by kernel_rfl) (by kernel_rfl) (by kernel_rfl) (fun _ _ _ h => h) (Or.inl ⟨by rfl, fun w' hSw => ?_⟩) (by with_reducible assumption) ?_
      · clear hSw
        go_simp
      try simp only [Act.put, List.setIfInBounds_toArray, List.set_cons_zero, List.set_cons_succ]
      refine wpAnyH_ready (rs := [8, 12]) (by kernel_rfl) (by simp) ?_
      refine AllReadyH.cons (i := 8) rfl (fun K hK => ?_) (AllReadyH.cons (i := 12) rfl (fun K hK => ?_) AllReadyH.nil)
      · have a0 : W4.drew.cell? ⟨d, l, none⟩ = some (.int .i64 (z : Int)) := HZ.out ▸ HS4.out.cell HL.out
        go_simp
        clear a0
        refine hK.out _ _ hHeld (fun hHeld2 => ?_)
        clear hK K hHeld
        have hHeld := hHeld2
        clear hHeld2
        try simp only [Act.put, List.setIfInBounds_toArray, List.set_cons_zero, List.set_cons_succ]
        refine wpAnyH_ready (rs := [12]) (by kernel_rfl) (by simp) ?_
        refine AllReadyH.cons (i := 12) rfl (fun K hK => ?_) AllReadyH.nil
        go_simp
        go_wp2_with (go_at_call 100; refine (sTree_is d v ar nr cr p.2 _ HV.out HNR.out (HRT.out.keep (gtrans HK4.out (drew_kept W4))) (HS4.out.keep (drew_kept W4)) HOKp.out.2).mono ?_; rintro e w6 ⟨rfl, hk6⟩; rw [HT.out]; have HK6 := hide1 (gtrans (drew_kept W4) hk6); clear hk6)
        refine hK.out _ _ (HK6.out.but d) (fun hHeld2 => ?_)
        clear hK K hHeld
        have hHeld := hHeld2
        clear hHeld2
        try simp only [Act.put, List.setIfInBounds_toArray, List.set_cons_zero, List.set_cons_succ]
        refine wpAnyH_take (i := 13) (v := .int .i64 (m : Int)) rfl (by kernel_rfl) (by kernel_rfl) (by kernel_rfl) (fun _ _ _ h => h) (Or.inl ⟨by rfl, fun w' hSw => ?_⟩) (by with_reducible assumption) ?_
        · clear hSw
          go_simp
        try simp only [Act.put, List.setIfInBounds_toArray, List.set_cons_zero, List.set_cons_succ]
        refine wpAnyH_take (i := 15) (v := .pointer (some ⟨d, l, none⟩)) rfl (by kernel_rfl) (by kernel_rfl) (by kernel_rfl) (fun _ _ _ h => h) (Or.inl ⟨by rfl, fun w' hSw => ?_⟩) (by with_reducible assumption) ?_
        · clear hSw
          go_simp
        try simp only [Act.put, List.setIfInBounds_toArray, List.set_cons_zero, List.set_cons_succ]
        refine wpAnyH_ready (rs := [16]) (by kernel_rfl) (by simp) ?_
        refine AllReadyH.cons (i := 16) rfl (fun K hK => ?_) AllReadyH.nil
        have HS6 := hide1 (HS4.out.keep HK6.out)
        have a0 := HS6.out.cell HL.out
        have z0 := HS6.out.free l
        go_simp
        clear a0 z0
        have HS8 := hide1 (HS6.out.set m HL.out)
        have HK8 : Hid (KeptBut d W4 (w6.setCell ⟨d, l, none⟩ (.int .i64 (m : Int)))) := but_set (HK6.out.but d) _ _
        refine hK.out _ _ HK8.out (fun hHeld2 => ?_)
        clear hK K hHeld
        have hHeld := hHeld2
        clear hHeld2
        try simp only [Act.put, List.setIfInBounds_toArray, List.set_cons_zero, List.set_cons_succ]
        refine wpAnyH_done (by kernel_rfl) ?_ _
        clear hHeld
        go_wp2_with fail
        go_roundw
        case rel => exact ⟨j + 1, _, by go_num, by rw [HPS.out]; omega, HMP, HMV, HS8, HKr.out.trans ((HK4.out.but d).trans HK8.out)⟩
        case measure => simp [intOf]; omega
      · go_simp
        go_wp2_with (go_at_call 100; refine (sTree_is d v ar nr cr p.2 _ HV.out HNR.out (HRT.out.keep (gtrans HK4.out (drew_kept W4))) (HS4.out.keep (drew_kept W4)) HOKp.out.2).mono ?_; rintro e w6 ⟨rfl, hk6⟩; rw [HT.out]; have HK6 := hide1 (gtrans (drew_kept W4) hk6); clear hk6)
        refine hK.out _ _ (HK6.out.but d) (fun hHeld2 => ?_)
        clear hK K hHeld
        have hHeld := hHeld2
        clear hHeld2
        try simp only [Act.put, List.setIfInBounds_toArray, List.set_cons_zero, List.set_cons_succ]
        refine wpAnyH_ready (rs := [8]) (by kernel_rfl) (by simp) ?_
        refine AllReadyH.cons (i := 8) rfl (fun K hK => ?_) AllReadyH.nil
        have a0 : w6.cell? ⟨d, l, none⟩ = some (.int .i64 (z : Int)) := HZ.out ▸ (HS4.out.keep HK6.out).cell HL.out
        go_simp
        clear a0
        refine hK.out _ _ hHeld (fun hHeld2 => ?_)
        clear hK K hHeld
        have hHeld := hHeld2
        clear hHeld2
        try simp only [Act.put, List.setIfInBounds_toArray, List.set_cons_zero, List.set_cons_succ]
        refine wpAnyH_take (i := 13) (v := .int .i64 (m : Int)) rfl (by kernel_rfl) (by kernel_rfl) (by kernel_rfl) (fun _ _ _ h => h) (Or.inl ⟨by rfl, fun w' hSw => ?_⟩) (by with_reducible assumption) ?_
        · clear hSw
          go_simp
        try simp only [Act.put, List.setIfInBounds_toArray, List.set_cons_zero, List.set_cons_succ]
        refine wpAnyH_take (i := 15) (v := .pointer (some ⟨d, l, none⟩)) rfl (by kernel_rfl) (by kernel_rfl) (by kernel_rfl) (fun _ _ _ h => h) (Or.inl ⟨by rfl, fun w' hSw => ?_⟩) (by with_reducible assumption) ?_
        · clear hSw
          go_simp
        try simp only [Act.put, List.setIfInBounds_toArray, List.set_cons_zero, List.set_cons_succ]
        refine wpAnyH_ready (rs := [16]) (by kernel_rfl) (by simp) ?_
        refine AllReadyH.cons (i := 16) rfl (fun K hK => ?_) AllReadyH.nil
        have HS6 := hide1 (HS4.out.keep HK6.out)
        have a0 := HS6.out.cell HL.out
        have z0 := HS6.out.free l
        go_simp
        clear a0 z0
        have HS8 := hide1 (HS6.out.set m HL.out)
        have HK8 : Hid (KeptBut d W4 (w6.setCell ⟨d, l, none⟩ (.int .i64 (m : Int)))) := but_set (HK6.out.but d) _ _
        refine hK.out _ _ HK8.out (fun hHeld2 => ?_)
        clear hK K hHeld
        have hHeld := hHeld2
        clear hHeld2
        try simp only [Act.put, List.setIfInBounds_toArray, List.set_cons_zero, List.set_cons_succ]
        refine wpAnyH_done (by kernel_rfl) ?_ _
        clear hHeld
        go_wp2_with fail
        go_roundw
        case rel => exact ⟨j + 1, _, by go_num, by rw [HPS.out]; omega, HMP, HMV, HS8, HKr.out.trans ((HK4.out.but d).trans HK8.out)⟩
        case measure => simp [intOf]; omega
    · have hjn : j = ps.length := by have := HPS.out; omega
      have HM2 : Hid (EzStep ps v0 v ps.length) := hjn ▸ HM
      have HSO := hide1 (HO2.out.but HKr.out HOD.out)
      go_upto_region 7 with fail
      refine wp_region_held_drew (S := fun X => Kept wr X) (by kernel_rfl) (Kept.refl wr) (fun hHeld => ?_)
      refine wpAnyH_take (i := 0) (v := .pointer (some ⟨d, 0, none⟩)) rfl (by kernel_rfl) (by kernel_rfl) (by kernel_rfl) (fun _ _ _ h => h) (Or.inl ⟨by rfl, fun w' hSw => ?_⟩) (by with_reducible assumption) ?_
      · clear hSw
        go_simp
      try simp only [Act.put, List.setIfInBounds_toArray, List.set_cons_zero, List.set_cons_succ]
      refine wpAnyH_take (i := 1) (v := .pointer (some ⟨d, 0, none⟩)) rfl (by kernel_rfl) (by kernel_rfl) (by kernel_rfl) (fun _ _ _ h => h) (Or.inl ⟨by rfl, fun w' hSw => ?_⟩) (by with_reducible assumption) ?_
      · clear hSw
        go_simp
      try simp only [Act.put, List.setIfInBounds_toArray, List.set_cons_zero, List.set_cons_succ]
      refine wpAnyH_take (i := 2) (v := .agg (szV v)) rfl (by kernel_rfl) (by kernel_rfl) (by kernel_rfl) (fun _ _ _ h => h) (Or.inl ⟨by rfl, fun w' hSw => ?_⟩) (by with_reducible assumption) ?_
      · have s0 := run_loadVar_row (P := Tryd.prog) w' d 140 140 (szV v) (0, 0) _ (HSr.out.keep hSw) Tryd.underlying140 rfl (sz_size v)
        exact exec_load_row _ _ 140 (Operand.tmp 35) d (szV v) w' rfl rfl s0
      try simp only [Act.put, List.setIfInBounds_toArray, List.set_cons_zero, List.set_cons_succ]
      refine wpAnyH_take (i := 3) (v := .agg (szV v0)) rfl (by kernel_rfl) (by kernel_rfl) (by kernel_rfl) (fun _ _ _ h => h) (Or.inl ⟨by rfl, fun w' hSw => ?_⟩) (by with_reducible assumption) ?_
      · have s0 := run_loadVar_row (P := Tryd.prog) w' ob 140 140 (szV v0) (0, 0) _ (HSO.out.keep hSw) Tryd.underlying140 rfl (sz_size v0)
        exact exec_load_row _ _ 140 (Operand.tmp 4) ob (szV v0) w' rfl rfl s0
      try simp only [Act.put, List.setIfInBounds_toArray, List.set_cons_zero, List.set_cons_succ]
      refine wpAnyH_take (i := 4) (v := .bool (!eqV v v0)) rfl (by kernel_rfl) (by kernel_rfl) (by kernel_rfl) (fun _ _ _ h => h) (Or.inl ⟨by rfl, fun w' hSw => ?_⟩) (by with_reducible assumption) ?_
      · have s0 := HNE.out v
        clear hSw
        go_simp
      try simp only [Act.put, List.setIfInBounds_toArray, List.set_cons_zero, List.set_cons_succ]
      refine wpAnyH_take (i := 5) (v := .bool (!eqV v v0)) rfl (by kernel_rfl) (by kernel_rfl) (by kernel_rfl) (fun _ _ _ h => h) (Or.inl ⟨by rfl, fun w' hSw => ?_⟩) (by with_reducible assumption) ?_
      · clear hSw
        go_simp
      try simp only [Act.put, List.setIfInBounds_toArray, List.set_cons_zero, List.set_cons_succ]
      refine wpAnyH_done (by kernel_rfl) ?_ _
      clear hHeld
      go_wp2_with fail
      go_ret
      exact ⟨v, HM2.out, HVV.out, rfl, HSr.out, ((HK2.out.but d).trans HKr.out).trans ((drew_kept _).but d)⟩

end Ex
end Go.Proofs.YtooelfjceehmmaaDoor
