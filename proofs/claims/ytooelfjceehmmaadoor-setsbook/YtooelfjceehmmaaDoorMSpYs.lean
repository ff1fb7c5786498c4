import Derived.Test.YtooelfjceehmmaaDoorMSpYj
namespace Go.Proofs.YtooelfjceehmmaaDoor
open Go.RowKit
attribute [local go_sem] Oper.semAt_some
namespace Ex

def OkY (L : Nat → Option (List Int)) : Prop := ∀ n r, L n = some r → (∀ z ∈ r, IsB z) ∧ r.length ≤ 4096
theorem join_bytes {nl : Nat} {L : Nat → Option (List Int)} (hL : OkY L) (hnl : nl < 128) : ∀ (ys : List SymM) (row x : List Int), (∀ y ∈ ys, SymGood y) → (∀ z ∈ row, IsB z) → joinM nl L ys row = some x → ∀ z ∈ x, IsB z
  | [], row, x, _, hr, hx => by
    have hx : some row = some x := hx
    injection hx with hx
    subst hx
    exact hr
  | y :: ys, row, x, hg, hr, hx => by
    unfold joinM at hx
    cases hs : symY nl L y with
    | none => rw [hs] at hx; exact absurd hx (by simp)
    | some a =>
      rw [hs] at hx
      have hx : (if 4096 < (row ++ a).length then none else joinM nl L ys (row ++ a)) = some x := hx
      by_cases hl : 4096 < (row ++ a).length
      · rw [if_pos hl] at hx; exact absurd hx (by simp)
      · rw [if_neg hl] at hx
        refine join_bytes hL hnl ys _ x (fun y hy => hg y (List.mem_cons_of_mem _ hy)) (fun z hz => ?_) hx
        rcases List.mem_append.1 hz with hz | hz
        · exact hr z hz
        · unfold symY at hs
          by_cases h3 : y.1 = 3
          · rw [if_pos h3] at hs
            exact (hL _ _ hs).1 z hz
          · rw [if_neg h3] at hs
            injection hs with hs
            subst hs
            rw [List.mem_singleton.1 hz]
            have := term_lt hnl (hg y List.mem_cons_self) h3
            unfold IsB
            omega
theorem OkY.put {L : Nat → Option (List Int)} (h : OkY L) {l : Nat} {x : Option (List Int)} (hx : ∀ r, x = some r → (∀ z ∈ r, IsB z) ∧ r.length ≤ 4096) : OkY (putL L l x) := fun n r hr => by
  unfold putL at hr
  by_cases e : n = l
  · rw [if_pos e] at hr; exact hx r hr
  · rw [if_neg e] at hr; exact h n r hr
def YsI (nl : Nat) (ps : List ProdM) (L0 : Nat → Option (List Int)) (lb : Nat) (W : World) (vi : Value) (wr : World) : Prop := ∃ (j : Nat) (L : Nat → Option (List Int)), vi = .int .i64 (j : Int) ∧ j ≤ ps.length ∧ Hid (YStep nl ps L0 L j) ∧ Hid (OkY L ∧ ∀ n, 128 ≤ n → L n = L0 n) ∧ Hid (SeB wr lb L) ∧ Hid (KeptBut lb W wr)
def YsR (nl : Nat) (ps : List ProdM) (L0 : Nat → Option (List Int)) (lb : Nat) (w : World) (e : Ending) (w' : World) : Prop := ∃ L, YStep nl ps L0 L ps.length ∧ (OkY L ∧ ∀ n, 128 ≤ n → L n = L0 n) ∧ e = .returned (.bool (!eqL L L0)) ∧ SeB w' lb L ∧ KeptBut lb w w'
set_option linter.unusedSimpArgs false in
set_option maxRecDepth 100000 in
set_option maxHeartbeats 16000000 in
theorem yStep_is (lb g nl : Nat) (L0 : Nat → Option (List Int)) (ps : List ProdM) (al : Option Addr) (cl : Nat) (x1 : Value) (st : Int) (ap : Option Addr) (np cp : Nat) (w0 w : World) (hnl : nl < 128) (hL0 : OkY L0) (hps : ps.length = np) (hA : SeB w lb L0) (hg : SBox w g (.slice al nl cl) x1 (.int .i64 st) (.slice ap np cp)) (hp : ProdsAt w0 (.slice ap np cp) ps) (hk : Kept w0 w) (hd : w0.heap.size ≤ lb) (hgd : g ≠ lb) (hok : ∀ p ∈ ps, ProdGood p) :
    Calls Tryd.prog 91 #[.pointer (some ⟨lb, 0, none⟩), .pointer (some ⟨g, 0, none⟩)] w (YsR nl ps L0 lb w) := by
  have HPS := hide1 hps
  have HNL := hide1 hnl
  have HL0 := hide1 hL0
  have HP := hide1 hp
  have HK0 := hide1 hk
  have HD := hide1 hd
  have HGD := hide1 hgd
  have HOK := hide1 hok
  have HA := hide1 hA
  have HG := hide1 hg
  obtain ⟨_, _, e1, hc, hn⟩ := hp.len
  simp only [Value.slice.injEq] at e1
  obtain ⟨rfl, en, rfl⟩ := e1
  clear en
  rw [hps] at hc hn
  have gn : (np : Int) ≤ 17592186044416 := by omega
  clear hps hnl hA hg hp hk hd hgd hok hL0
  go_enter Tryd.func91, Tryd.ntmps91
  go_upto_region 1 with fail
  have HOD : Hid (w.heap.size ≠ lb) := Nat.ne_of_gt HA.out.lt
  go_upto_region 2 with (first
    | (refine wpList_load_row rfl 132 _ rfl lb rfl 132 (senL L0).toArray (0, 0) _ (by exact HA.out) Tryd.underlying132 rfl (sen_size L0) ?_)
    | (refine wpList_store_row rfl 132 _ _ rfl w.heap.size (senL L0).toArray rfl rfl 132 (senL fun _ => none).toArray (by exact sen_zero w) (sen_size L0) (sen_sizes _ _) (senL_all L0) ?_))
  have HO2 : Hid (SeB ((w.alloc (.cells Tryd.zeroCells132 132)).setRow w.heap.size (senL L0).toArray) w.heap.size L0) := setRow_heap _ _ _ _ _ _ (sen_zero w)
  have HK2 : Hid (Kept w ((w.alloc (.cells Tryd.zeroCells132 132)).setRow w.heap.size (senL L0).toArray)) := KeptBut.up ((Kept.refl w).alloc _ _) (Nat.le_refl _) (setRow_butS _ _ _)
  obtain ⟨W, hW⟩ : ∃ W, (w.alloc (.cells Tryd.zeroCells132 132)).setRow w.heap.size (senL L0).toArray = W := ⟨_, rfl⟩
  rw [hW] at HO2 HK2 ⊢
  clear hW
  obtain ⟨ob, hob⟩ : ∃ ob, w.heap.size = ob := ⟨_, rfl⟩
  rw [hob] at HO2 HOD ⊢
  clear hob
  have HA2 := hide1 (HA.out.keep HK2.out)
  have HG2 := hide1 (HG.out.keep HK2.out)
  obtain ⟨s0, s1, s2, s3⟩ := HG2.out.facts
  go_wp2_with fail
  clear s0 s1 s2 s3
  go_loopw [14] (YsI nl ps L0 lb W) (fun i _ => np - (intOf i).toNat)
  case atStart => exact ⟨0, L0, rfl, Nat.zero_le _, YStep.start nl ps L0, ⟨HL0.out, fun _ _ => rfl⟩, HA2, but_refl lb W⟩
  case round =>
    obtain ⟨j, L, rfl, hj, HM, HVV, HSr, HKr⟩ := hrel
    rw [HPS.out] at hj
    by_cases hlt : (j : Int) < (np : Int)
    · obtain ⟨p, hp⟩ : ∃ p, ps[j]? = some p := ⟨_, List.getElem?_eq_getElem (by have := HPS.out; omega)⟩
      have HKw := hide1 (KeptBut.up (gtrans HK0.out HK2.out) HD.out HKr.out)
      obtain ⟨cb, o2, cs, ea, hcb, hlen, hcell, v', hcs, hrt⟩ := SliceOf.el (HP.out.keep HKw.out) hp
      subst ea hcs
      have k0 : wr.cell? ⟨cb, o2 + j * 2, none⟩ = some (.int .i64 p.1) := hcell 0 _ rfl
      have k1 := hcell 1 _ rfl
      have gjc : (j : Int) < (cp : Int) := by omega
      have HOKp := hide1 (HOK.out p (List.mem_of_getElem? hp))
      have HPJ := hide1 hp
      obtain ⟨ar, cr, rfl, hcr, hnr⟩ := hrt.len
      obtain ⟨nr, hnr2⟩ : ∃ nr, p.2.length = nr := ⟨_, rfl⟩
      rw [hnr2] at hrt hcr hnr k1
      have HNR := hide1 hnr2
      have HRT := hide1 hrt
      obtain ⟨l, hl⟩ : ∃ l : Nat, p.1 = (l : Int) := ⟨p.1.toNat, by have := HOKp.out.1.1; omega⟩
      have HLE : Hid (p.1.toNat = l) := by show _ = _; omega
      have HL : Hid (l < 128) := by have := HOKp.out.1; show _ < _; omega
      rw [hl] at k0
      clear hp hcell hrt hnr2 hl
      have HPB := hide1 (PBox.new wr (.int .i64 (l : Int)) (.slice ar nr cr))
      have HK4 : Hid (Kept wr (wr.alloc (.cells #[.int .i64 (l : Int), .slice ar nr cr] 40))) := (Kept.refl wr).alloc _ _
      have HPBD : Hid (wr.heap.size ≠ lb) := Nat.ne_of_gt HSr.out.lt
      go_upto_region 5 with fail
      clear k0 k1
      obtain ⟨W4, hW4⟩ : ∃ W4, wr.alloc (.cells #[.int .i64 (l : Int), .slice ar nr cr] 40) = W4 := ⟨_, rfl⟩
      rw [hW4] at HPB HK4 ⊢
      clear hW4
      obtain ⟨pb, hpb⟩ : ∃ pb, wr.heap.size = pb := ⟨_, rfl⟩
      rw [hpb] at HPB HPBD ⊢
      clear hpb
      have HS4 := hide1 (HSr.out.keep HK4.out)
      have HG4 := hide1 ((HG2.out.but HKr.out HGD.out).keep HK4.out)
      have gl8 : (l : Int) < 128 := by have := HL.out; omega
      obtain ⟨s0, s1, s2, s3⟩ := HG4.out.facts
      obtain ⟨q0, q1⟩ := HPB.out.cells
      obtain ⟨x, hx⟩ : ∃ x, joinM nl L p.2 [] = x := ⟨_, rfl⟩
      have HX := hide1 hx
      have HXOK : Hid (∀ r, x = some r → (∀ z ∈ r, IsB z) ∧ r.length ≤ 4096) := fun r hr => by
        rw [hr] at hx
        exact ⟨join_bytes HVV.out.1 HNL.out p.2 [] r HOKp.out.2 (fun z hz => by cases hz) hx, join_len p.2 [] r (by simp) hx⟩
      obtain ⟨kx, hkx⟩ : ∃ kx, x.isSome = kx := ⟨_, rfl⟩
      obtain ⟨sx, hsx⟩ : ∃ sx, strOf (x.getD []) = sx := ⟨_, rfl⟩
      have HKX := hide1 hkx
      have HSX := hide1 hsx
      clear hx hkx hsx
      go_upto_region 6 with (go_at_call 92; refine (sJoin_is lb nl L al cl x1 _ st ar nr cr p.2 _ HNL.out HVV.out.1 HNR.out (HRT.out.keep HK4.out) HS4.out HOKp.out.2).mono ?_; rintro e w6 ⟨rfl, hk6⟩; rw [HX.out, senV_eq, HKX.out, HSX.out]; have HK6 := hide1 hk6; clear hk6)
      clear s0 s1 s2 s3 q0 q1
      have HXB : Hid (SnBox (w6.alloc (.cells #[.bool kx, .string sx] 130)) w6.heap.size x) := by
        show SnBox _ _ _
        unfold SnBox
        rw [HKX.out, HSX.out]
        exact heap_alloc_new w6 _
      have HK7 := hide1 (gtrans HK6.out ((Kept.refl w6).alloc #[.bool kx, .string sx] 130))
      have HXL : Hid (W4.heap.size ≤ w6.heap.size) := HK6.out.size
      obtain ⟨W7, hW7⟩ : ∃ W7, w6.alloc (.cells #[.bool kx, .string sx] 130) = W7 := ⟨_, rfl⟩
      rw [hW7] at HXB HK7 ⊢
      clear hW7
      obtain ⟨xb, hxb⟩ : ∃ xb, w6.heap.size = xb := ⟨_, rfl⟩
      rw [hxb] at HXB HXL ⊢
      clear hxb
      have HXD : Hid (xb ≠ lb) := by have := HS4.out.lt; have := HXL.out; show _ ≠ _; omega
      have HS7 := hide1 (HS4.out.keep HK7.out)
      have HPB7 := hide1 (HPB.out.keep HK7.out)
      obtain ⟨bt, hbt⟩ : ∃ bt, betterM x (L l) = bt := ⟨_, rfl⟩
      have HBT := hide1 hbt
      clear hbt
      have HCB : Hid (∀ X, Calls Tryd.prog 93 #[.agg #[.bool kx, .string sx], .agg #[.bool (L l).isSome, .string (strOf ((L l).getD []))]] X fun e w' => e = .returned (.bool bt) ∧ Kept X w') := fun X => by
        have h := better_is x (L l) X HXOK.out (HVV.out.1 l)
        rw [HKX.out, HSX.out, HBT.out] at h
        exact h
      refine wp_region_held_drew (S := fun X => Kept W7 X) (by kernel_rfl) (Kept.refl W7) (fun hHeld => ?_)
      refine wpAnyH_take (i := 0) (v := .agg #[.bool kx, .string sx]) rfl (by kernel_rfl) (by kernel_rfl) (by kernel_rfl) (fun _ _ _ h => h) (Or.inl ⟨by rfl, fun w' hSw => ?_⟩) (by with_reducible assumption) ?_
      · obtain ⟨⟨s0, s1⟩, _⟩ := (HXB.out.keep hSw).cells
        rw [HKX.out] at s0
        rw [HSX.out] at s1
        clear hSw
        go_simp
      try simp only [Act.put, List.setIfInBounds_toArray, List.set_cons_zero, List.set_cons_succ]
      refine wpAnyH_take (i := 1) (v := .pointer (some ⟨lb, 0, none⟩)) rfl (by kernel_rfl) (by kernel_rfl) (by kernel_rfl) (fun _ _ _ h => h) (Or.inl ⟨by rfl, fun w' hSw => ?_⟩) (by with_reducible assumption) ?_
      · clear hSw
        go_simp
      try simp only [Act.put, List.setIfInBounds_toArray, List.set_cons_zero, List.set_cons_succ]
      refine wpAnyH_take (i := 2) (v := .pointer (some ⟨pb, 0, none⟩)) rfl (by kernel_rfl) (by kernel_rfl) (by kernel_rfl) (fun _ _ _ h => h) (Or.inl ⟨by rfl, fun w' hSw => ?_⟩) (by with_reducible assumption) ?_
      · clear hSw
        go_simp
      try simp only [Act.put, List.setIfInBounds_toArray, List.set_cons_zero, List.set_cons_succ]
      refine wpAnyH_take (i := 3) (v := .int .i64 (l : Int)) rfl (by kernel_rfl) (by kernel_rfl) (by kernel_rfl) (fun _ _ _ h => h) (Or.inl ⟨by rfl, fun w' hSw => ?_⟩) (by with_reducible assumption) ?_
      · have s0 := (HPB7.out.keep hSw).cells.1
        clear hSw
        go_simp
      try simp only [Act.put, List.setIfInBounds_toArray, List.set_cons_zero, List.set_cons_succ]
      refine wpAnyH_take (i := 4) (v := .pointer (some ⟨lb, 0, none⟩)) rfl (by kernel_rfl) (by kernel_rfl) (by kernel_rfl) (fun _ _ _ h => h) (Or.inl ⟨by rfl, fun w' hSw => ?_⟩) (by with_reducible assumption) ?_
      · clear hSw
        go_simp
      try simp only [Act.put, List.setIfInBounds_toArray, List.set_cons_zero, List.set_cons_succ]
      refine wpAnyH_take (i := 5) (v := .pointer (some ⟨lb, l * 2, none⟩)) rfl (by kernel_rfl) (by kernel_rfl) (by kernel_rfl) (fun _ _ _ h => h) (Or.inl ⟨by rfl, fun w' hSw => ?_⟩) (by with_reducible assumption) ?_
      · clear hSw
        go_simp
      try simp only [Act.put, List.setIfInBounds_toArray, List.set_cons_zero, List.set_cons_succ]
      refine wpAnyH_take (i := 6) (v := .agg #[.bool (L l).isSome, .string (strOf ((L l).getD []))]) rfl (by kernel_rfl) (by kernel_rfl) (by kernel_rfl) (fun _ _ _ h => h) (Or.inl ⟨by rfl, fun w' hSw => ?_⟩) (by with_reducible assumption) ?_
      · obtain ⟨s0, s1⟩ := (HS7.out.keep hSw).cells HL.out
        clear hSw
        go_simp
      try simp only [Act.put, List.setIfInBounds_toArray, List.set_cons_zero, List.set_cons_succ]
      refine wpAnyH_ready (rs := [7]) (by kernel_rfl) (by simp) ?_
      refine AllReadyH.cons (i := 7) rfl (fun K hK => ?_) AllReadyH.nil
      go_simp
      go_wp2_with (go_at_call 93; refine (HCB.out _).mono ?_; rintro e w8 ⟨rfl, hk8⟩; have HK8 := hide1 (gtrans (drew_kept W7) hk8); clear hk8)
      refine hK.out _ _ HK8.out (fun hHeld2 => ?_)
      clear hK K hHeld
      have hHeld := hHeld2
      clear hHeld2
      try simp only [Act.put, List.setIfInBounds_toArray, List.set_cons_zero, List.set_cons_succ]
      refine wpAnyH_done (by kernel_rfl) ?_ _
      clear hHeld
      obtain ⟨W8, hW8⟩ : ∃ W8, w8 = W8 := ⟨_, rfl⟩
      rw [hW8] at HK8 ⊢
      clear hW8
      have HS8 := hide1 (HS7.out.keep HK8.out)
      have HPB8 := hide1 (HPB7.out.keep HK8.out)
      have HXB8 := hide1 (HXB.out.keep HK8.out)
      cases bt
      · have HMP : Hid (YStep nl ps L0 L (j + 1)) := HM.out.skip HPJ.out (by rw [HX.out, HLE.out]; exact HBT.out)
        go_wp2_with fail
        go_roundw
        case rel => exact ⟨j + 1, L, by go_num, by rw [HPS.out]; omega, HMP, HVV, HS8, HKr.out.trans ((HK4.out.but lb).trans ((HK7.out.but lb).trans (HK8.out.but lb)))⟩
        case measure => simp [intOf]; omega
      · have HMP : Hid (YStep nl ps L0 (putL L l x) (j + 1)) := by
          have hb := HBT.out
          have hx := HX.out
          cases x with
          | none => exact absurd hb (by simp [betterM])
          | some r => exact HM.out.put HPJ.out HLE.out hx hb
        have HMV : Hid (OkY (putL L l x) ∧ ∀ n, 128 ≤ n → putL L l x n = L0 n) := ⟨HVV.out.1.put HXOK.out, fun n hn => by unfold putL; rw [if_neg (by have := HL.out; omega)]; exact HVV.out.2 n hn⟩
        go_upto_region 7 with fail
        refine wp_region_held_drew (S := fun X => KeptBut lb W8 X) (by kernel_rfl) (but_refl lb W8) (fun hHeld => ?_)
        refine wpAnyH_take (i := 0) (v := .pointer (some ⟨lb, 0, none⟩)) rfl (by kernel_rfl) (by kernel_rfl) (by kernel_rfl) (fun _ _ _ h => h) (Or.inl ⟨by rfl, fun w' hSw => ?_⟩) (by with_reducible assumption) ?_
        · clear hSw
          go_simp
        try simp only [Act.put, List.setIfInBounds_toArray, List.set_cons_zero, List.set_cons_succ]
        refine wpAnyH_take (i := 1) (v := .pointer (some ⟨pb, 0, none⟩)) rfl (by kernel_rfl) (by kernel_rfl) (by kernel_rfl) (fun _ _ _ h => h) (Or.inl ⟨by rfl, fun w' hSw => ?_⟩) (by with_reducible assumption) ?_
        · clear hSw
          go_simp
        try simp only [Act.put, List.setIfInBounds_toArray, List.set_cons_zero, List.set_cons_succ]
        refine wpAnyH_take (i := 2) (v := .int .i64 (l : Int)) rfl (by kernel_rfl) (by kernel_rfl) (by kernel_rfl) (fun _ _ _ h => h) (Or.inl ⟨by rfl, fun w' hSw => ?_⟩) (by with_reducible assumption) ?_
        · have s0 := (HPB8.out.but hSw HPBD.out).cells.1
          clear hSw
          go_simp
        try simp only [Act.put, List.setIfInBounds_toArray, List.set_cons_zero, List.set_cons_succ]
        refine wpAnyH_take (i := 3) (v := .agg #[.bool kx, .string sx]) rfl (by kernel_rfl) (by kernel_rfl) (by kernel_rfl) (fun _ _ _ h => h) (Or.inl ⟨by rfl, fun w' hSw => ?_⟩) (by with_reducible assumption) ?_
        · obtain ⟨⟨s0, s1⟩, _⟩ := (HXB8.out.but hSw HXD.out).cells
          rw [HKX.out] at s0
          rw [HSX.out] at s1
          clear hSw
          go_simp
        try simp only [Act.put, List.setIfInBounds_toArray, List.set_cons_zero, List.set_cons_succ]
        refine wpAnyH_take (i := 4) (v := .pointer (some ⟨lb, 0, none⟩)) rfl (by kernel_rfl) (by kernel_rfl) (by kernel_rfl) (fun _ _ _ h => h) (Or.inl ⟨by rfl, fun w' hSw => ?_⟩) (by with_reducible assumption) ?_
        · clear hSw
          go_simp
        try simp only [Act.put, List.setIfInBounds_toArray, List.set_cons_zero, List.set_cons_succ]
        refine wpAnyH_take (i := 5) (v := .pointer (some ⟨lb, l * 2, none⟩)) rfl (by kernel_rfl) (by kernel_rfl) (by kernel_rfl) (fun _ _ _ h => h) (Or.inl ⟨by rfl, fun w' hSw => ?_⟩) (by with_reducible assumption) ?_
        · clear hSw
          go_simp
        try simp only [Act.put, List.setIfInBounds_toArray, List.set_cons_zero, List.set_cons_succ]
        have HKX0 := hide1 (drew_kept W8)
        obtain ⟨X0, hX0⟩ : ∃ X0, W8.drew = X0 := ⟨_, rfl⟩
        rw [hX0] at hHeld HKX0 ⊢
        clear hX0
        refine wpAnyH_ready (rs := [6]) (by kernel_rfl) (by simp) ?_
        refine AllReadyH.cons (i := 6) rfl (fun K hK => ?_) AllReadyH.nil
        have HS9 := hide1 (HS8.out.keep HKX0.out)
        obtain ⟨a0, a1⟩ := HS9.out.cells HL.out
        have z0 := Blk.free HS9.out (l * 2)
        have z1 := Blk.free HS9.out (l * 2 + 1)
        go_simp
        clear a0 a1 z0 z1
        have HS10 : Hid (SeB ((X0.setCell ⟨lb, l * 2, none⟩ (.bool kx)).setCell ⟨lb, l * 2 + 1, none⟩ (.string sx)) lb (putL L l x)) := by
          have h := HS9.out.set l x
          rw [HKX.out, HSX.out] at h
          exact h
        have HK10 : Hid (KeptBut lb W8 ((X0.setCell ⟨lb, l * 2, none⟩ (.bool kx)).setCell ⟨lb, l * 2 + 1, none⟩ (.string sx))) := but_set (but_set (HKX0.out.but lb) _ _) _ _
        refine hK.out _ _ HK10.out (fun hHeld2 => ?_)
        clear hK K hHeld
        have hHeld := hHeld2
        clear hHeld2
        try simp only [Act.put, List.setIfInBounds_toArray, List.set_cons_zero, List.set_cons_succ]
        refine wpAnyH_done (by kernel_rfl) ?_ _
        clear hHeld
        go_wp2_with fail
        go_roundw
        case rel => exact ⟨j + 1, _, by go_num, by rw [HPS.out]; omega, HMP, HMV, HS10, HKr.out.trans ((HK4.out.but lb).trans ((HK7.out.but lb).trans ((HK8.out.but lb).trans HK10.out)))⟩
        case measure => simp [intOf]; omega
    · have hjn : j = ps.length := by have := HPS.out; omega
      have HM2 : Hid (YStep nl ps L0 L ps.length) := by
        have := HM.out
        rw [hjn] at this
        exact this
      have HSO : Hid (SeB wr ob L0) := HO2.out.but HKr.out HOD.out
      have hne := neq_sen L L0
      have HNE := hide1 hne
      clear hne
      go_upto_region 9 with fail
      refine wp_region_held_drew (S := fun X => Kept wr X) (by kernel_rfl) (Kept.refl wr) (fun hHeld => ?_)
      refine wpAnyH_take (i := 0) (v := .pointer (some ⟨lb, 0, none⟩)) rfl (by kernel_rfl) (by kernel_rfl) (by kernel_rfl) (fun _ _ _ h => h) (Or.inl ⟨by rfl, fun w' hSw => ?_⟩) (by with_reducible assumption) ?_
      · clear hSw
        go_simp
      try simp only [Act.put, List.setIfInBounds_toArray, List.set_cons_zero, List.set_cons_succ]
      refine wpAnyH_take (i := 1) (v := .pointer (some ⟨lb, 0, none⟩)) rfl (by kernel_rfl) (by kernel_rfl) (by kernel_rfl) (fun _ _ _ h => h) (Or.inl ⟨by rfl, fun w' hSw => ?_⟩) (by with_reducible assumption) ?_
      · clear hSw
        go_simp
      try simp only [Act.put, List.setIfInBounds_toArray, List.set_cons_zero, List.set_cons_succ]
      refine wpAnyH_take (i := 2) (v := .agg (senL L).toArray) rfl (by kernel_rfl) (by kernel_rfl) (by kernel_rfl) (fun _ _ _ h => h) (Or.inl ⟨by rfl, fun w' hSw => ?_⟩) (by with_reducible assumption) ?_
      · have s0 := run_loadVar_row (P := Tryd.prog) w' lb 132 132 (senL L).toArray (0, 0) _ (Blk.keep HSr.out hSw) Tryd.underlying132 rfl (sen_size L)
        exact exec_load_at _ _ 132 _ ⟨lb, 0, none⟩ (.agg (senL L).toArray) w' rfl rfl s0
      try simp only [Act.put, List.setIfInBounds_toArray, List.set_cons_zero, List.set_cons_succ]
      refine wpAnyH_take (i := 3) (v := .agg (senL L0).toArray) rfl (by kernel_rfl) (by kernel_rfl) (by kernel_rfl) (fun _ _ _ h => h) (Or.inl ⟨by rfl, fun w' hSw => ?_⟩) (by with_reducible assumption) ?_
      · have s0 := run_loadVar_row (P := Tryd.prog) w' ob 132 132 (senL L0).toArray (0, 0) _ (Blk.keep HSO.out hSw) Tryd.underlying132 rfl (sen_size L0)
        exact exec_load_at _ _ 132 _ ⟨ob, 0, none⟩ (.agg (senL L0).toArray) w' rfl rfl s0
      try simp only [Act.put, List.setIfInBounds_toArray, List.set_cons_zero, List.set_cons_succ]
      refine wpAnyH_take (i := 4) (v := .bool (!eqL L L0)) rfl (by kernel_rfl) (by kernel_rfl) (by kernel_rfl) (fun _ _ _ h => h) (Or.inl ⟨by rfl, fun w' hSw => ?_⟩) (by with_reducible assumption) ?_
      · have s0 := HNE.out
        clear hSw
        go_simp
      try simp only [Act.put, List.setIfInBounds_toArray, List.set_cons_zero, List.set_cons_succ]
      refine wpAnyH_take (i := 5) (v := .bool (!eqL L L0)) rfl (by kernel_rfl) (by kernel_rfl) (by kernel_rfl) (fun _ _ _ h => h) (Or.inl ⟨by rfl, fun w' hSw => ?_⟩) (by with_reducible assumption) ?_
      · clear hSw
        go_simp
      try simp only [Act.put, List.setIfInBounds_toArray, List.set_cons_zero, List.set_cons_succ]
      refine wpAnyH_done (by kernel_rfl) ?_ _
      clear hHeld
      go_wp2_with fail
      go_ret
      exact ⟨L, HM2.out, HVV.out, rfl, HSr.out, ((HK2.out.but lb).trans HKr.out).trans ((drew_kept _).but lb)⟩

end Ex
end Go.Proofs.YtooelfjceehmmaaDoor
