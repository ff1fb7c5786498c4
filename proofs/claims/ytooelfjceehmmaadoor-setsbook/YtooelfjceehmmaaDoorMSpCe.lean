import Derived.Test.YtooelfjceehmmaaDoorMSpSu
namespace Go.Proofs.YtooelfjceehmmaaDoor
open Go.RowKit
attribute [local go_sem] Oper.semAt_some
namespace Ex

/-- A name that comes to nothing has an empty tree that is small. -/
def EmptyQ (ps : List ProdM) (nn : Nat) (x : Int × Int) : Prop := FirstMiss (fun i => Mk false ps i → ∃ k, k ≤ 256 ∧ Ez ps i k) nn 6 x
theorem if_yes {c : Bool} {p q : Prop} (h : c = true) (hp : p) : if c = true then p else q := by
  rw [if_pos h]
  exact hp
theorem ez_small {ps : List ProdM} {v : Nat → Nat} (h : EzIs ps v) (i : Nat) : (∃ k, k ≤ 256 ∧ Ez ps i k) ↔ v i ≠ 257 := by
  constructor
  · rintro ⟨k, hk, he⟩
    rcases (h i).2.2 k he with h1 | h1 <;> omega
  · intro hne
    have h1 := (h i).1
    exact ⟨v i, by omega, (h i).2.1 (by omega)⟩
/-- What lies in memory behind the first region. -/
def CeC (ps : List ProdM) (W : World) (c3 c4 : Value) (X : World) : Prop := ∃ (A : Nat) (v : Nat → Nat) (sb zb : Nat), c3 = .pointer (some ⟨sb, 0, none⟩) ∧ c4 = .pointer (some ⟨zb, 0, none⟩) ∧ (∀ n, A.testBit n = true ↔ Mk false ps n) ∧ EzIs ps v ∧ Kept W X ∧ SetB X sb A ∧ SzB X zb v
def CeI (A : Nat) (v : Nat → Nat) (W : World) (vi : Value) (wr : World) : Prop := ∃ j : Nat, vi = .int .i64 (j : Int) ∧ Hid (∀ k, k < j → (A.testBit k = true → v k ≠ 257)) ∧ Hid (Kept W wr)
set_option linter.unusedSimpArgs false in
set_option maxRecDepth 100000 in
set_option maxHeartbeats 16000000 in
theorem checkEmpty_is (ps : List ProdM) (x0 x2 : Value) (an ap : Option Addr) (nn cn np cp : Nat) (w : World) (hnn : nn ≤ 128) (hps : ps.length = np) (hp : ProdsAt w (.slice ap np cp) ps) (hok : ∀ p ∈ ps, ProdOk p) :
    Calls Tryd.prog 54 #[.agg #[x0, .slice an nn cn, x2, .slice ap np cp]] w (FaultR (EmptyQ ps nn) w) := by
  obtain ⟨h1, h2, h3⟩ := chk_start w x0 (.slice an nn cn) x2 (.slice ap np cp)
  have HB := hide1 h1
  have HF := hide1 h2
  have HK := hide1 h3
  have HP := hide1 hp
  have HPS := hide1 hps
  have HOK := hide1 hok
  have gn : (nn : Int) ≤ 128 := by omega
  clear h1 h2 h3 hp hps hok
  go_enter Tryd.func54, Tryd.ntmps54
  go_upto_region 1 with fail
  obtain ⟨W, hW⟩ : ∃ W, (w.alloc (.cells #[x0, .slice an nn cn, x2, .slice ap np cp] 26)).alloc (.cells #[.int .i64 0, .int .i64 0, .string ⟨#[]⟩] 44) = W := ⟨_, rfl⟩
  rw [hW] at HB HF HK ⊢
  clear hW
  obtain ⟨b, hb⟩ : ∃ b, w.heap.size = b := ⟨_, rfl⟩
  rw [hb] at HB HF ⊢
  have HSZ := hide1 hb
  clear hb
  go_cut [3, 4] from 6 to 9 (fun c3 c4 wy => ∃ wx, wx = wy ∧ CeC ps W c3 c4 wx)
  case first =>
    refine wp_region_held_drew (S := fun X => Kept W X) (by kernel_rfl) (Kept.refl W) (fun hHeld => ?_)
    refine wpAnyH_take (i := 0) (v := .agg #[x0, .slice an nn cn, x2, .slice ap np cp]) rfl (by kernel_rfl) (by kernel_rfl) (by kernel_rfl) (fun _ _ _ h => h) (Or.inl ⟨by rfl, fun w' hSw => ?_⟩) (by with_reducible assumption) ?_
    · obtain ⟨s0, s1, s2, s3⟩ := (HB.out.keep hSw).facts
      clear hSw
      go_simp
    try simp only [Act.put, List.setIfInBounds_toArray, List.set_cons_zero, List.set_cons_succ]
    refine wpAnyH_take (i := 2) (v := .agg #[x0, .slice an nn cn, x2, .slice ap np cp]) rfl (by kernel_rfl) (by kernel_rfl) (by kernel_rfl) (fun _ _ _ h => h) (Or.inl ⟨by rfl, fun w' hSw => ?_⟩) (by with_reducible assumption) ?_
    · obtain ⟨s0, s1, s2, s3⟩ := (HB.out.keep hSw).facts
      clear hSw
      go_simp
    try simp only [Act.put, List.setIfInBounds_toArray, List.set_cons_zero, List.set_cons_succ]
    obtain ⟨X0, hX0⟩ : ∃ X0, W.drew = X0 := ⟨_, rfl⟩
    rw [hX0] at hHeld ⊢
    clear hX0
    have HKX := hide1 hHeld
    refine wpAnyH_ready (rs := [1, 4, 5]) (by kernel_rfl) (by simp) ?_
    refine AllReadyH.cons (i := 1) rfl (fun K hK => ?_) (AllReadyH.cons (i := 4) rfl (fun K hK => ?_) (AllReadyH.cons (i := 5) rfl (fun K hK => ?_) AllReadyH.nil))
    · go_simp
      go_wp2_with (go_at_call 43; refine (making_is false ps x0 (.slice an nn cn) x2 ap np cp _ HPS.out (HP.out.keep (gtrans HK.out HKX.out)) HOK.out).mono ?_; rintro e X1 ⟨A, rfl, ha6, hb6, hk6⟩; have HA6 := hide1 ha6; have HKX := hide1 (gtrans HKX.out hk6); clear ha6 hb6 hk6)
      refine hK.out _ _ HKX.out (fun hHeld2 => ?_)
      clear hK K hHeld
      have hHeld := hHeld2
      clear hHeld2
      try simp only [Act.put, List.setIfInBounds_toArray, List.set_cons_zero, List.set_cons_succ]
      refine wpAnyH_ready (rs := [3, 4, 5]) (by kernel_rfl) (by simp) ?_
      refine AllReadyH.cons (i := 3) rfl (fun K hK => ?_) (AllReadyH.cons (i := 4) rfl (fun K hK => ?_) (AllReadyH.cons (i := 5) rfl (fun K hK => ?_) AllReadyH.nil))
      · go_simp
        go_wp2_with (go_at_call 85; refine (emptySizes_is ps x0 (.slice an nn cn) x2 ap np cp _ HPS.out (HP.out.keep (gtrans HK.out HKX.out)) HOK.out).mono ?_; rintro e X2 ⟨v, rfl, ha6, hk6⟩; have HV6 := hide1 ha6; have HKX := hide1 (gtrans HKX.out hk6); clear ha6 hk6)
        refine hK.out _ _ HKX.out (fun hHeld2 => ?_)
        clear hK K hHeld
        have hHeld := hHeld2
        clear hHeld2
        try simp only [Act.put, List.setIfInBounds_toArray, List.set_cons_zero, List.set_cons_succ]
        refine wpAnyH_ready (rs := [4, 5]) (by kernel_rfl) (by simp) ?_
        refine AllReadyH.cons (i := 4) rfl (fun K hK => ?_) (AllReadyH.cons (i := 5) rfl (fun K hK => ?_) AllReadyH.nil)
        · go_simp
          have HKN : Hid (Kept X2 (X2.alloc (.cells #[.int .u64 0, .int .u64 0] 75))) := (Kept.refl _).alloc _ _
          have HSB : Hid (SetB (X2.alloc (.cells #[.int .u64 0, .int .u64 0] 75)) X2.heap.size 0) := heap_alloc_new _ _
          have HLsb : Hid (W.heap.size ≤ X2.heap.size) := HKX.out.size
          have HKX := hide1 (gtrans HKX.out HKN.out)
          refine hK.out _ _ HKX.out (fun hHeld2 => ?_)
          clear hK K hHeld
          have hHeld := hHeld2
          clear hHeld2
          try simp only [Act.put, List.setIfInBounds_toArray, List.set_cons_zero, List.set_cons_succ]
          obtain ⟨X3, hX3⟩ : ∃ X3, X2.alloc (.cells #[.int .u64 0, .int .u64 0] 75) = X3 := ⟨_, rfl⟩
          rw [hX3] at HKX hHeld HSB ⊢
          clear hX3 HKN
          obtain ⟨sb, hsb⟩ : ∃ sb, X2.heap.size = sb := ⟨_, rfl⟩
          rw [hsb] at HSB HLsb ⊢
          clear hsb
          refine wpAnyH_ready (rs := [5]) (by kernel_rfl) (by simp) ?_
          refine AllReadyH.cons (i := 5) rfl (fun K hK => ?_) AllReadyH.nil
          · have HSO := HSB
            go_simp
            have HKN : Hid (Kept X3 (X3.alloc (.cells Tryd.zeroCells140 140))) := (Kept.refl _).alloc _ _
            have HSB := hide1 (HSB.out.keep HKN.out)
            have HZB := hide1 (sz_zero X3)
            have HLzb : Hid (W.heap.size ≤ X3.heap.size) := HKX.out.size
            have HNE : Hid (sb ≠ X3.heap.size) := Nat.ne_of_lt HSO.out.lt
            have HKX := hide1 (gtrans HKX.out HKN.out)
            refine hK.out _ _ HKX.out (fun hHeld2 => ?_)
            clear hK K hHeld
            have hHeld := hHeld2
            clear hHeld2
            try simp only [Act.put, List.setIfInBounds_toArray, List.set_cons_zero, List.set_cons_succ]
            obtain ⟨X4, hX4⟩ : ∃ X4, X3.alloc (.cells Tryd.zeroCells140 140) = X4 := ⟨_, rfl⟩
            rw [hX4] at HKX hHeld HSB HZB ⊢
            clear hX4 HKN
            obtain ⟨zb, hzb⟩ : ∃ zb, X3.heap.size = zb := ⟨_, rfl⟩
            rw [hzb] at HZB HLzb HNE ⊢
            clear hzb
            rw [setS_eq]
            refine wpAnyH_ready (rs := [6]) (by kernel_rfl) (by simp) ?_
            refine AllReadyH.cons (i := 6) rfl (fun K hK => ?_) AllReadyH.nil
            have a0 := HSB.out.cell (i := 0) (by omega)
            have a1 := HSB.out.cell (i := 1) (by omega)
            have z0 := HSB.out.free 0
            have z1 := HSB.out.free 1
            go_simp
            clear a0 a1 z0 z1
            have HBU : Hid (KeptBut sb X4 ((X4.setCell ⟨sb, 0, none⟩ (.int .u64 (wordAt A 0 : Nat))).setCell ⟨sb, 1, none⟩ (.int .u64 (wordAt A 1 : Nat)))) := but_set (but_set (but_refl sb X4) _ _) _ _
            have HS8 := hide1 (HSB.out.fill (B := A))
            have HZ8 := hide1 (HZB.out.but HBU.out (fun e => HNE.out e.symm))
            have HK8 := hide1 (KeptBut.up HKX.out HLsb.out HBU.out)
            refine hK.out _ _ HK8.out (fun hHeld2 => ?_)
            clear hK K hHeld
            have hHeld := hHeld2
            clear hHeld2
            try simp only [Act.put, List.setIfInBounds_toArray, List.set_cons_zero, List.set_cons_succ]
            obtain ⟨Y, hY⟩ : ∃ Y, ((X4.setCell ⟨sb, 0, none⟩ (.int .u64 (wordAt A 0 : Nat))).setCell ⟨sb, 1, none⟩ (.int .u64 (wordAt A 1 : Nat))) = Y := ⟨_, rfl⟩
            rw [hY] at HS8 HZ8 HK8 hHeld ⊢
            clear hY HBU
            refine wpAnyH_ready (rs := [7]) (by kernel_rfl) (by simp) ?_
            refine AllReadyH.cons (i := 7) rfl (fun K hK => ?_) AllReadyH.nil
            refine if_yes (by kernel_rfl) ?_
            refine wp_store_row 140 _ _ rfl zb (szV v) rfl rfl 140 (szV fun _ => 0) HZ8.out (sz_size v) (by rw [szV_size, szV_size]) (szV_one v) ?_
            have HBU : Hid (KeptBut zb Y (Y.setRow zb (szV v))) := setRow_butS _ _ _
            have HK9 := hide1 (KeptBut.up HK8.out HLzb.out HBU.out)
            have HS9 := hide1 (HS8.out.but HBU.out HNE.out)
            have HZ9 : Hid (SzB (Y.setRow zb (szV v)) zb v) := setRow_heap _ _ _ _ _ _ HZ8.out
            refine hK.out _ _ HK9.out (fun hHeld2 => ?_)
            clear hK K hHeld
            have hHeld := hHeld2
            clear hHeld2
            try simp only [Act.put, List.setIfInBounds_toArray, List.set_cons_zero, List.set_cons_succ]
            refine wpAnyH_done (by kernel_rfl) ?_ _
            clear hHeld
            go_wp2_with fail
            go_meet
            exact ⟨_, rfl, A, v, sb, zb, rfl, rfl, HA6.out, HV6.out, HK9.out, HS9.out, HZ9.out⟩
        · go_simp
          have HKN : Hid (Kept X2 (X2.alloc (.cells Tryd.zeroCells140 140))) := (Kept.refl _).alloc _ _
          have HZB := hide1 (sz_zero X2)
          have HLzb : Hid (W.heap.size ≤ X2.heap.size) := HKX.out.size
          have HKX := hide1 (gtrans HKX.out HKN.out)
          refine hK.out _ _ HKX.out (fun hHeld2 => ?_)
          clear hK K hHeld
          have hHeld := hHeld2
          clear hHeld2
          try simp only [Act.put, List.setIfInBounds_toArray, List.set_cons_zero, List.set_cons_succ]
          obtain ⟨X3, hX3⟩ : ∃ X3, X2.alloc (.cells Tryd.zeroCells140 140) = X3 := ⟨_, rfl⟩
          rw [hX3] at HKX hHeld HZB ⊢
          clear hX3 HKN
          obtain ⟨zb, hzb⟩ : ∃ zb, X2.heap.size = zb := ⟨_, rfl⟩
          rw [hzb] at HZB HLzb ⊢
          clear hzb
          refine wpAnyH_ready (rs := [4]) (by kernel_rfl) (by simp) ?_
          refine AllReadyH.cons (i := 4) rfl (fun K hK => ?_) AllReadyH.nil
          · have HZO := HZB
            go_simp
            have HKN : Hid (Kept X3 (X3.alloc (.cells #[.int .u64 0, .int .u64 0] 75))) := (Kept.refl _).alloc _ _
            have HZB := hide1 (HZB.out.keep HKN.out)
            have HSB : Hid (SetB (X3.alloc (.cells #[.int .u64 0, .int .u64 0] 75)) X3.heap.size 0) := heap_alloc_new _ _
            have HLsb : Hid (W.heap.size ≤ X3.heap.size) := HKX.out.size
            have HNE : Hid (X3.heap.size ≠ zb) := Nat.ne_of_gt HZO.out.lt
            have HKX := hide1 (gtrans HKX.out HKN.out)
            refine hK.out _ _ HKX.out (fun hHeld2 => ?_)
            clear hK K hHeld
            have hHeld := hHeld2
            clear hHeld2
            try simp only [Act.put, List.setIfInBounds_toArray, List.set_cons_zero, List.set_cons_succ]
            obtain ⟨X4, hX4⟩ : ∃ X4, X3.alloc (.cells #[.int .u64 0, .int .u64 0] 75) = X4 := ⟨_, rfl⟩
            rw [hX4] at HKX hHeld HSB HZB ⊢
            clear hX4 HKN
            obtain ⟨sb, hsb⟩ : ∃ sb, X3.heap.size = sb := ⟨_, rfl⟩
            rw [hsb] at HSB HLsb HNE ⊢
            clear hsb
            rw [setS_eq]
            refine wpAnyH_ready (rs := [6]) (by kernel_rfl) (by simp) ?_
            refine AllReadyH.cons (i := 6) rfl (fun K hK => ?_) AllReadyH.nil
            have a0 := HSB.out.cell (i := 0) (by omega)
            have a1 := HSB.out.cell (i := 1) (by omega)
            have z0 := HSB.out.free 0
            have z1 := HSB.out.free 1
            go_simp
            clear a0 a1 z0 z1
            have HBU : Hid (KeptBut sb X4 ((X4.setCell ⟨sb, 0, none⟩ (.int .u64 (wordAt A 0 : Nat))).setCell ⟨sb, 1, none⟩ (.int .u64 (wordAt A 1 : Nat)))) := but_set (but_set (but_refl sb X4) _ _) _ _
            have HS8 := hide1 (HSB.out.fill (B := A))
            have HZ8 := hide1 (HZB.out.but HBU.out (fun e => HNE.out e.symm))
            have HK8 := hide1 (KeptBut.up HKX.out HLsb.out HBU.out)
            refine hK.out _ _ HK8.out (fun hHeld2 => ?_)
            clear hK K hHeld
            have hHeld := hHeld2
            clear hHeld2
            try simp only [Act.put, List.setIfInBounds_toArray, List.set_cons_zero, List.set_cons_succ]
            obtain ⟨Y, hY⟩ : ∃ Y, ((X4.setCell ⟨sb, 0, none⟩ (.int .u64 (wordAt A 0 : Nat))).setCell ⟨sb, 1, none⟩ (.int .u64 (wordAt A 1 : Nat))) = Y := ⟨_, rfl⟩
            rw [hY] at HS8 HZ8 HK8 hHeld ⊢
            clear hY HBU
            refine wpAnyH_ready (rs := [7]) (by kernel_rfl) (by simp) ?_
            refine AllReadyH.cons (i := 7) rfl (fun K hK => ?_) AllReadyH.nil
            refine if_yes (by kernel_rfl) ?_
            refine wp_store_row 140 _ _ rfl zb (szV v) rfl rfl 140 (szV fun _ => 0) HZ8.out (sz_size v) (by rw [szV_size, szV_size]) (szV_one v) ?_
            have HBU : Hid (KeptBut zb Y (Y.setRow zb (szV v))) := setRow_butS _ _ _
            have HK9 := hide1 (KeptBut.up HK8.out HLzb.out HBU.out)
            have HS9 := hide1 (HS8.out.but HBU.out HNE.out)
            have HZ9 : Hid (SzB (Y.setRow zb (szV v)) zb v) := setRow_heap _ _ _ _ _ _ HZ8.out
            refine hK.out _ _ HK9.out (fun hHeld2 => ?_)
            clear hK K hHeld
            have hHeld := hHeld2
            clear hHeld2
            try simp only [Act.put, List.setIfInBounds_toArray, List.set_cons_zero, List.set_cons_succ]
            refine wpAnyH_done (by kernel_rfl) ?_ _
            clear hHeld
            go_wp2_with fail
            go_meet
            exact ⟨_, rfl, A, v, sb, zb, rfl, rfl, HA6.out, HV6.out, HK9.out, HS9.out, HZ9.out⟩
      · go_simp
        have HKN : Hid (Kept X1 (X1.alloc (.cells #[.int .u64 0, .int .u64 0] 75))) := (Kept.refl _).alloc _ _
        have HSB : Hid (SetB (X1.alloc (.cells #[.int .u64 0, .int .u64 0] 75)) X1.heap.size 0) := heap_alloc_new _ _
        have HLsb : Hid (W.heap.size ≤ X1.heap.size) := HKX.out.size
        have HKX := hide1 (gtrans HKX.out HKN.out)
        refine hK.out _ _ HKX.out (fun hHeld2 => ?_)
        clear hK K hHeld
        have hHeld := hHeld2
        clear hHeld2
        try simp only [Act.put, List.setIfInBounds_toArray, List.set_cons_zero, List.set_cons_succ]
        obtain ⟨X2, hX2⟩ : ∃ X2, X1.alloc (.cells #[.int .u64 0, .int .u64 0] 75) = X2 := ⟨_, rfl⟩
        rw [hX2] at HKX hHeld HSB ⊢
        clear hX2 HKN
        obtain ⟨sb, hsb⟩ : ∃ sb, X1.heap.size = sb := ⟨_, rfl⟩
        rw [hsb] at HSB HLsb ⊢
        clear hsb
        refine wpAnyH_ready (rs := [3, 5]) (by kernel_rfl) (by simp) ?_
        refine AllReadyH.cons (i := 3) rfl (fun K hK => ?_) (AllReadyH.cons (i := 5) rfl (fun K hK => ?_) AllReadyH.nil)
        · go_simp
          go_wp2_with (go_at_call 85; refine (emptySizes_is ps x0 (.slice an nn cn) x2 ap np cp _ HPS.out (HP.out.keep (gtrans HK.out HKX.out)) HOK.out).mono ?_; rintro e X3 ⟨v, rfl, ha6, hk6⟩; have HV6 := hide1 ha6; have HSB := hide1 (HSB.out.keep hk6); have HKX := hide1 (gtrans HKX.out hk6); clear ha6 hk6)
          refine hK.out _ _ HKX.out (fun hHeld2 => ?_)
          clear hK K hHeld
          have hHeld := hHeld2
          clear hHeld2
          try simp only [Act.put, List.setIfInBounds_toArray, List.set_cons_zero, List.set_cons_succ]
          refine wpAnyH_ready (rs := [5]) (by kernel_rfl) (by simp) ?_
          refine AllReadyH.cons (i := 5) rfl (fun K hK => ?_) AllReadyH.nil
          · have HSO := HSB
            go_simp
            have HKN : Hid (Kept X3 (X3.alloc (.cells Tryd.zeroCells140 140))) := (Kept.refl _).alloc _ _
            have HSB := hide1 (HSB.out.keep HKN.out)
            have HZB := hide1 (sz_zero X3)
            have HLzb : Hid (W.heap.size ≤ X3.heap.size) := HKX.out.size
            have HNE : Hid (sb ≠ X3.heap.size) := Nat.ne_of_lt HSO.out.lt
            have HKX := hide1 (gtrans HKX.out HKN.out)
            refine hK.out _ _ HKX.out (fun hHeld2 => ?_)
            clear hK K hHeld
            have hHeld := hHeld2
            clear hHeld2
            try simp only [Act.put, List.setIfInBounds_toArray, List.set_cons_zero, List.set_cons_succ]
            obtain ⟨X4, hX4⟩ : ∃ X4, X3.alloc (.cells Tryd.zeroCells140 140) = X4 := ⟨_, rfl⟩
            rw [hX4] at HKX hHeld HSB HZB ⊢
            clear hX4 HKN
            obtain ⟨zb, hzb⟩ : ∃ zb, X3.heap.size = zb := ⟨_, rfl⟩
            rw [hzb] at HZB HLzb HNE ⊢
            clear hzb
            rw [setS_eq]
            refine wpAnyH_ready (rs := [6]) (by kernel_rfl) (by simp) ?_
            refine AllReadyH.cons (i := 6) rfl (fun K hK => ?_) AllReadyH.nil
            have a0 := HSB.out.cell (i := 0) (by omega)
            have a1 := HSB.out.cell (i := 1) (by omega)
            have z0 := HSB.out.free 0
            have z1 := HSB.out.free 1
            go_simp
            clear a0 a1 z0 z1
            have HBU : Hid (KeptBut sb X4 ((X4.setCell ⟨sb, 0, none⟩ (.int .u64 (wordAt A 0 : Nat))).setCell ⟨sb, 1, none⟩ (.int .u64 (wordAt A 1 : Nat)))) := but_set (but_set (but_refl sb X4) _ _) _ _
            have HS8 := hide1 (HSB.out.fill (B := A))
            have HZ8 := hide1 (HZB.out.but HBU.out (fun e => HNE.out e.symm))
            have HK8 := hide1 (KeptBut.up HKX.out HLsb.out HBU.out)
            refine hK.out _ _ HK8.out (fun hHeld2 => ?_)
            clear hK K hHeld
            have hHeld := hHeld2
            clear hHeld2
            try simp only [Act.put, List.setIfInBounds_toArray, List.set_cons_zero, List.set_cons_succ]
            obtain ⟨Y, hY⟩ : ∃ Y, ((X4.setCell ⟨sb, 0, none⟩ (.int .u64 (wordAt A 0 : Nat))).setCell ⟨sb, 1, none⟩ (.int .u64 (wordAt A 1 : Nat))) = Y := ⟨_, rfl⟩
            rw [hY] at HS8 HZ8 HK8 hHeld ⊢
            clear hY HBU
            refine wpAnyH_ready (rs := [7]) (by kernel_rfl) (by simp) ?_
            refine AllReadyH.cons (i := 7) rfl (fun K hK => ?_) AllReadyH.nil
            refine if_yes (by kernel_rfl) ?_
            refine wp_store_row 140 _ _ rfl zb (szV v) rfl rfl 140 (szV fun _ => 0) HZ8.out (sz_size v) (by rw [szV_size, szV_size]) (szV_one v) ?_
            have HBU : Hid (KeptBut zb Y (Y.setRow zb (szV v))) := setRow_butS _ _ _
            have HK9 := hide1 (KeptBut.up HK8.out HLzb.out HBU.out)
            have HS9 := hide1 (HS8.out.but HBU.out HNE.out)
            have HZ9 : Hid (SzB (Y.setRow zb (szV v)) zb v) := setRow_heap _ _ _ _ _ _ HZ8.out
            refine hK.out _ _ HK9.out (fun hHeld2 => ?_)
            clear hK K hHeld
            have hHeld := hHeld2
            clear hHeld2
            try simp only [Act.put, List.setIfInBounds_toArray, List.set_cons_zero, List.set_cons_succ]
            refine wpAnyH_done (by kernel_rfl) ?_ _
            clear hHeld
            go_wp2_with fail
            go_meet
            exact ⟨_, rfl, A, v, sb, zb, rfl, rfl, HA6.out, HV6.out, HK9.out, HS9.out, HZ9.out⟩
        · have HSO := HSB
          go_simp
          have HKN : Hid (Kept X2 (X2.alloc (.cells Tryd.zeroCells140 140))) := (Kept.refl _).alloc _ _
          have HSB := hide1 (HSB.out.keep HKN.out)
          have HZB := hide1 (sz_zero X2)
          have HLzb : Hid (W.heap.size ≤ X2.heap.size) := HKX.out.size
          have HNE : Hid (sb ≠ X2.heap.size) := Nat.ne_of_lt HSO.out.lt
          have HKX := hide1 (gtrans HKX.out HKN.out)
          refine hK.out _ _ HKX.out (fun hHeld2 => ?_)
          clear hK K hHeld
          have hHeld := hHeld2
          clear hHeld2
          try simp only [Act.put, List.setIfInBounds_toArray, List.set_cons_zero, List.set_cons_succ]
          obtain ⟨X3, hX3⟩ : ∃ X3, X2.alloc (.cells Tryd.zeroCells140 140) = X3 := ⟨_, rfl⟩
          rw [hX3] at HKX hHeld HSB HZB ⊢
          clear hX3 HKN
          obtain ⟨zb, hzb⟩ : ∃ zb, X2.heap.size = zb := ⟨_, rfl⟩
          rw [hzb] at HZB HLzb HNE ⊢
          clear hzb
          refine wpAnyH_ready (rs := [3]) (by kernel_rfl) (by simp) ?_
          refine AllReadyH.cons (i := 3) rfl (fun K hK => ?_) AllReadyH.nil
          · go_simp
            go_wp2_with (go_at_call 85; refine (emptySizes_is ps x0 (.slice an nn cn) x2 ap np cp _ HPS.out (HP.out.keep (gtrans HK.out HKX.out)) HOK.out).mono ?_; rintro e X4 ⟨v, rfl, ha6, hk6⟩; have HV6 := hide1 ha6; have HSB := hide1 (HSB.out.keep hk6); have HZB := hide1 (HZB.out.keep hk6); have HKX := hide1 (gtrans HKX.out hk6); clear ha6 hk6)
            refine hK.out _ _ HKX.out (fun hHeld2 => ?_)
            clear hK K hHeld
            have hHeld := hHeld2
            clear hHeld2
            try simp only [Act.put, List.setIfInBounds_toArray, List.set_cons_zero, List.set_cons_succ]
            rw [setS_eq]
            refine wpAnyH_ready (rs := [6]) (by kernel_rfl) (by simp) ?_
            refine AllReadyH.cons (i := 6) rfl (fun K hK => ?_) AllReadyH.nil
            have a0 := HSB.out.cell (i := 0) (by omega)
            have a1 := HSB.out.cell (i := 1) (by omega)
            have z0 := HSB.out.free 0
            have z1 := HSB.out.free 1
            go_simp
            clear a0 a1 z0 z1
            have HBU : Hid (KeptBut sb X4 ((X4.setCell ⟨sb, 0, none⟩ (.int .u64 (wordAt A 0 : Nat))).setCell ⟨sb, 1, none⟩ (.int .u64 (wordAt A 1 : Nat)))) := but_set (but_set (but_refl sb X4) _ _) _ _
            have HS8 := hide1 (HSB.out.fill (B := A))
            have HZ8 := hide1 (HZB.out.but HBU.out (fun e => HNE.out e.symm))
            have HK8 := hide1 (KeptBut.up HKX.out HLsb.out HBU.out)
            refine hK.out _ _ HK8.out (fun hHeld2 => ?_)
            clear hK K hHeld
            have hHeld := hHeld2
            clear hHeld2
            try simp only [Act.put, List.setIfInBounds_toArray, List.set_cons_zero, List.set_cons_succ]
            obtain ⟨Y, hY⟩ : ∃ Y, ((X4.setCell ⟨sb, 0, none⟩ (.int .u64 (wordAt A 0 : Nat))).setCell ⟨sb, 1, none⟩ (.int .u64 (wordAt A 1 : Nat))) = Y := ⟨_, rfl⟩
            rw [hY] at HS8 HZ8 HK8 hHeld ⊢
            clear hY HBU
            refine wpAnyH_ready (rs := [7]) (by kernel_rfl) (by simp) ?_
            refine AllReadyH.cons (i := 7) rfl (fun K hK => ?_) AllReadyH.nil
            refine if_yes (by kernel_rfl) ?_
            refine wp_store_row 140 _ _ rfl zb (szV v) rfl rfl 140 (szV fun _ => 0) HZ8.out (sz_size v) (by rw [szV_size, szV_size]) (szV_one v) ?_
            have HBU : Hid (KeptBut zb Y (Y.setRow zb (szV v))) := setRow_butS _ _ _
            have HK9 := hide1 (KeptBut.up HK8.out HLzb.out HBU.out)
            have HS9 := hide1 (HS8.out.but HBU.out HNE.out)
            have HZ9 : Hid (SzB (Y.setRow zb (szV v)) zb v) := setRow_heap _ _ _ _ _ _ HZ8.out
            refine hK.out _ _ HK9.out (fun hHeld2 => ?_)
            clear hK K hHeld
            have hHeld := hHeld2
            clear hHeld2
            try simp only [Act.put, List.setIfInBounds_toArray, List.set_cons_zero, List.set_cons_succ]
            refine wpAnyH_done (by kernel_rfl) ?_ _
            clear hHeld
            go_wp2_with fail
            go_meet
            exact ⟨_, rfl, A, v, sb, zb, rfl, rfl, HA6.out, HV6.out, HK9.out, HS9.out, HZ9.out⟩
      · go_simp
        have HKN : Hid (Kept X1 (X1.alloc (.cells Tryd.zeroCells140 140))) := (Kept.refl _).alloc _ _
        have HZB := hide1 (sz_zero X1)
        have HLzb : Hid (W.heap.size ≤ X1.heap.size) := HKX.out.size
        have HKX := hide1 (gtrans HKX.out HKN.out)
        refine hK.out _ _ HKX.out (fun hHeld2 => ?_)
        clear hK K hHeld
        have hHeld := hHeld2
        clear hHeld2
        try simp only [Act.put, List.setIfInBounds_toArray, List.set_cons_zero, List.set_cons_succ]
        obtain ⟨X2, hX2⟩ : ∃ X2, X1.alloc (.cells Tryd.zeroCells140 140) = X2 := ⟨_, rfl⟩
        rw [hX2] at HKX hHeld HZB ⊢
        clear hX2 HKN
        obtain ⟨zb, hzb⟩ : ∃ zb, X1.heap.size = zb := ⟨_, rfl⟩
        rw [hzb] at HZB HLzb ⊢
        clear hzb
        refine wpAnyH_ready (rs := [3, 4]) (by kernel_rfl) (by simp) ?_
        refine AllReadyH.cons (i := 3) rfl (fun K hK => ?_) (AllReadyH.cons (i := 4) rfl (fun K hK => ?_) AllReadyH.nil)
        · go_simp
          go_wp2_with (go_at_call 85; refine (emptySizes_is ps x0 (.slice an nn cn) x2 ap np cp _ HPS.out (HP.out.keep (gtrans HK.out HKX.out)) HOK.out).mono ?_; rintro e X3 ⟨v, rfl, ha6, hk6⟩; have HV6 := hide1 ha6; have HZB := hide1 (HZB.out.keep hk6); have HKX := hide1 (gtrans HKX.out hk6); clear ha6 hk6)
          refine hK.out _ _ HKX.out (fun hHeld2 => ?_)
          clear hK K hHeld
          have hHeld := hHeld2
          clear hHeld2
          try simp only [Act.put, List.setIfInBounds_toArray, List.set_cons_zero, List.set_cons_succ]
          refine wpAnyH_ready (rs := [4]) (by kernel_rfl) (by simp) ?_
          refine AllReadyH.cons (i := 4) rfl (fun K hK => ?_) AllReadyH.nil
          · have HZO := HZB
            go_simp
            have HKN : Hid (Kept X3 (X3.alloc (.cells #[.int .u64 0, .int .u64 0] 75))) := (Kept.refl _).alloc _ _
            have HZB := hide1 (HZB.out.keep HKN.out)
            have HSB : Hid (SetB (X3.alloc (.cells #[.int .u64 0, .int .u64 0] 75)) X3.heap.size 0) := heap_alloc_new _ _
            have HLsb : Hid (W.heap.size ≤ X3.heap.size) := HKX.out.size
            have HNE : Hid (X3.heap.size ≠ zb) := Nat.ne_of_gt HZO.out.lt
            have HKX := hide1 (gtrans HKX.out HKN.out)
            refine hK.out _ _ HKX.out (fun hHeld2 => ?_)
            clear hK K hHeld
            have hHeld := hHeld2
            clear hHeld2
            try simp only [Act.put, List.setIfInBounds_toArray, List.set_cons_zero, List.set_cons_succ]
            obtain ⟨X4, hX4⟩ : ∃ X4, X3.alloc (.cells #[.int .u64 0, .int .u64 0] 75) = X4 := ⟨_, rfl⟩
            rw [hX4] at HKX hHeld HSB HZB ⊢
            clear hX4 HKN
            obtain ⟨sb, hsb⟩ : ∃ sb, X3.heap.size = sb := ⟨_, rfl⟩
            rw [hsb] at HSB HLsb HNE ⊢
            clear hsb
            rw [setS_eq]
            refine wpAnyH_ready (rs := [6]) (by kernel_rfl) (by simp) ?_
            refine AllReadyH.cons (i := 6) rfl (fun K hK => ?_) AllReadyH.nil
            have a0 := HSB.out.cell (i := 0) (by omega)
            have a1 := HSB.out.cell (i := 1) (by omega)
            have z0 := HSB.out.free 0
            have z1 := HSB.out.free 1
            go_simp
            clear a0 a1 z0 z1
            have HBU : Hid (KeptBut sb X4 ((X4.setCell ⟨sb, 0, none⟩ (.int .u64 (wordAt A 0 : Nat))).setCell ⟨sb, 1, none⟩ (.int .u64 (wordAt A 1 : Nat)))) := but_set (but_set (but_refl sb X4) _ _) _ _
            have HS8 := hide1 (HSB.out.fill (B := A))
            have HZ8 := hide1 (HZB.out.but HBU.out (fun e => HNE.out e.symm))
            have HK8 := hide1 (KeptBut.up HKX.out HLsb.out HBU.out)
            refine hK.out _ _ HK8.out (fun hHeld2 => ?_)
            clear hK K hHeld
            have hHeld := hHeld2
            clear hHeld2
            try simp only [Act.put, List.setIfInBounds_toArray, List.set_cons_zero, List.set_cons_succ]
            obtain ⟨Y, hY⟩ : ∃ Y, ((X4.setCell ⟨sb, 0, none⟩ (.int .u64 (wordAt A 0 : Nat))).setCell ⟨sb, 1, none⟩ (.int .u64 (wordAt A 1 : Nat))) = Y := ⟨_, rfl⟩
            rw [hY] at HS8 HZ8 HK8 hHeld ⊢
            clear hY HBU
            refine wpAnyH_ready (rs := [7]) (by kernel_rfl) (by simp) ?_
            refine AllReadyH.cons (i := 7) rfl (fun K hK => ?_) AllReadyH.nil
            refine if_yes (by kernel_rfl) ?_
            refine wp_store_row 140 _ _ rfl zb (szV v) rfl rfl 140 (szV fun _ => 0) HZ8.out (sz_size v) (by rw [szV_size, szV_size]) (szV_one v) ?_
            have HBU : Hid (KeptBut zb Y (Y.setRow zb (szV v))) := setRow_butS _ _ _
            have HK9 := hide1 (KeptBut.up HK8.out HLzb.out HBU.out)
            have HS9 := hide1 (HS8.out.but HBU.out HNE.out)
            have HZ9 : Hid (SzB (Y.setRow zb (szV v)) zb v) := setRow_heap _ _ _ _ _ _ HZ8.out
            refine hK.out _ _ HK9.out (fun hHeld2 => ?_)
            clear hK K hHeld
            have hHeld := hHeld2
            clear hHeld2
            try simp only [Act.put, List.setIfInBounds_toArray, List.set_cons_zero, List.set_cons_succ]
            refine wpAnyH_done (by kernel_rfl) ?_ _
            clear hHeld
            go_wp2_with fail
            go_meet
            exact ⟨_, rfl, A, v, sb, zb, rfl, rfl, HA6.out, HV6.out, HK9.out, HS9.out, HZ9.out⟩
        · have HZO := HZB
          go_simp
          have HKN : Hid (Kept X2 (X2.alloc (.cells #[.int .u64 0, .int .u64 0] 75))) := (Kept.refl _).alloc _ _
          have HZB := hide1 (HZB.out.keep HKN.out)
          have HSB : Hid (SetB (X2.alloc (.cells #[.int .u64 0, .int .u64 0] 75)) X2.heap.size 0) := heap_alloc_new _ _
          have HLsb : Hid (W.heap.size ≤ X2.heap.size) := HKX.out.size
          have HNE : Hid (X2.heap.size ≠ zb) := Nat.ne_of_gt HZO.out.lt
          have HKX := hide1 (gtrans HKX.out HKN.out)
          refine hK.out _ _ HKX.out (fun hHeld2 => ?_)
          clear hK K hHeld
          have hHeld := hHeld2
          clear hHeld2
          try simp only [Act.put, List.setIfInBounds_toArray, List.set_cons_zero, List.set_cons_succ]
          obtain ⟨X3, hX3⟩ : ∃ X3, X2.alloc (.cells #[.int .u64 0, .int .u64 0] 75) = X3 := ⟨_, rfl⟩
          rw [hX3] at HKX hHeld HSB HZB ⊢
          clear hX3 HKN
          obtain ⟨sb, hsb⟩ : ∃ sb, X2.heap.size = sb := ⟨_, rfl⟩
          rw [hsb] at HSB HLsb HNE ⊢
          clear hsb
          refine wpAnyH_ready (rs := [3]) (by kernel_rfl) (by simp) ?_
          refine AllReadyH.cons (i := 3) rfl (fun K hK => ?_) AllReadyH.nil
          · go_simp
            go_wp2_with (go_at_call 85; refine (emptySizes_is ps x0 (.slice an nn cn) x2 ap np cp _ HPS.out (HP.out.keep (gtrans HK.out HKX.out)) HOK.out).mono ?_; rintro e X4 ⟨v, rfl, ha6, hk6⟩; have HV6 := hide1 ha6; have HSB := hide1 (HSB.out.keep hk6); have HZB := hide1 (HZB.out.keep hk6); have HKX := hide1 (gtrans HKX.out hk6); clear ha6 hk6)
            refine hK.out _ _ HKX.out (fun hHeld2 => ?_)
            clear hK K hHeld
            have hHeld := hHeld2
            clear hHeld2
            try simp only [Act.put, List.setIfInBounds_toArray, List.set_cons_zero, List.set_cons_succ]
            rw [setS_eq]
            refine wpAnyH_ready (rs := [6]) (by kernel_rfl) (by simp) ?_
            refine AllReadyH.cons (i := 6) rfl (fun K hK => ?_) AllReadyH.nil
            have a0 := HSB.out.cell (i := 0) (by omega)
            have a1 := HSB.out.cell (i := 1) (by omega)
            have z0 := HSB.out.free 0
            have z1 := HSB.out.free 1
            go_simp
            clear a0 a1 z0 z1
            have HBU : Hid (KeptBut sb X4 ((X4.setCell ⟨sb, 0, none⟩ (.int .u64 (wordAt A 0 : Nat))).setCell ⟨sb, 1, none⟩ (.int .u64 (wordAt A 1 : Nat)))) := but_set (but_set (but_refl sb X4) _ _) _ _
            have HS8 := hide1 (HSB.out.fill (B := A))
            have HZ8 := hide1 (HZB.out.but HBU.out (fun e => HNE.out e.symm))
            have HK8 := hide1 (KeptBut.up HKX.out HLsb.out HBU.out)
            refine hK.out _ _ HK8.out (fun hHeld2 => ?_)
            clear hK K hHeld
            have hHeld := hHeld2
            clear hHeld2
            try simp only [Act.put, List.setIfInBounds_toArray, List.set_cons_zero, List.set_cons_succ]
            obtain ⟨Y, hY⟩ : ∃ Y, ((X4.setCell ⟨sb, 0, none⟩ (.int .u64 (wordAt A 0 : Nat))).setCell ⟨sb, 1, none⟩ (.int .u64 (wordAt A 1 : Nat))) = Y := ⟨_, rfl⟩
            rw [hY] at HS8 HZ8 HK8 hHeld ⊢
            clear hY HBU
            refine wpAnyH_ready (rs := [7]) (by kernel_rfl) (by simp) ?_
            refine AllReadyH.cons (i := 7) rfl (fun K hK => ?_) AllReadyH.nil
            refine if_yes (by kernel_rfl) ?_
            refine wp_store_row 140 _ _ rfl zb (szV v) rfl rfl 140 (szV fun _ => 0) HZ8.out (sz_size v) (by rw [szV_size, szV_size]) (szV_one v) ?_
            have HBU : Hid (KeptBut zb Y (Y.setRow zb (szV v))) := setRow_butS _ _ _
            have HK9 := hide1 (KeptBut.up HK8.out HLzb.out HBU.out)
            have HS9 := hide1 (HS8.out.but HBU.out HNE.out)
            have HZ9 : Hid (SzB (Y.setRow zb (szV v)) zb v) := setRow_heap _ _ _ _ _ _ HZ8.out
            refine hK.out _ _ HK9.out (fun hHeld2 => ?_)
            clear hK K hHeld
            have hHeld := hHeld2
            clear hHeld2
            try simp only [Act.put, List.setIfInBounds_toArray, List.set_cons_zero, List.set_cons_succ]
            refine wpAnyH_done (by kernel_rfl) ?_ _
            clear hHeld
            go_wp2_with fail
            go_meet
            exact ⟨_, rfl, A, v, sb, zb, rfl, rfl, HA6.out, HV6.out, HK9.out, HS9.out, HZ9.out⟩
    · go_simp
      have HKN : Hid (Kept X0 (X0.alloc (.cells #[.int .u64 0, .int .u64 0] 75))) := (Kept.refl _).alloc _ _
      have HSB : Hid (SetB (X0.alloc (.cells #[.int .u64 0, .int .u64 0] 75)) X0.heap.size 0) := heap_alloc_new _ _
      have HLsb : Hid (W.heap.size ≤ X0.heap.size) := HKX.out.size
      have HKX := hide1 (gtrans HKX.out HKN.out)
      refine hK.out _ _ HKX.out (fun hHeld2 => ?_)
      clear hK K hHeld
      have hHeld := hHeld2
      clear hHeld2
      try simp only [Act.put, List.setIfInBounds_toArray, List.set_cons_zero, List.set_cons_succ]
      obtain ⟨X1, hX1⟩ : ∃ X1, X0.alloc (.cells #[.int .u64 0, .int .u64 0] 75) = X1 := ⟨_, rfl⟩
      rw [hX1] at HKX hHeld HSB ⊢
      clear hX1 HKN
      obtain ⟨sb, hsb⟩ : ∃ sb, X0.heap.size = sb := ⟨_, rfl⟩
      rw [hsb] at HSB HLsb ⊢
      clear hsb
      refine wpAnyH_ready (rs := [1, 5]) (by kernel_rfl) (by simp) ?_
      refine AllReadyH.cons (i := 1) rfl (fun K hK => ?_) (AllReadyH.cons (i := 5) rfl (fun K hK => ?_) AllReadyH.nil)
      · go_simp
        go_wp2_with (go_at_call 43; refine (making_is false ps x0 (.slice an nn cn) x2 ap np cp _ HPS.out (HP.out.keep (gtrans HK.out HKX.out)) HOK.out).mono ?_; rintro e X2 ⟨A, rfl, ha6, hb6, hk6⟩; have HA6 := hide1 ha6; have HSB := hide1 (HSB.out.keep hk6); have HKX := hide1 (gtrans HKX.out hk6); clear ha6 hb6 hk6)
        refine hK.out _ _ HKX.out (fun hHeld2 => ?_)
        clear hK K hHeld
        have hHeld := hHeld2
        clear hHeld2
        try simp only [Act.put, List.setIfInBounds_toArray, List.set_cons_zero, List.set_cons_succ]
        refine wpAnyH_ready (rs := [3, 5]) (by kernel_rfl) (by simp) ?_
        refine AllReadyH.cons (i := 3) rfl (fun K hK => ?_) (AllReadyH.cons (i := 5) rfl (fun K hK => ?_) AllReadyH.nil)
        · go_simp
          go_wp2_with (go_at_call 85; refine (emptySizes_is ps x0 (.slice an nn cn) x2 ap np cp _ HPS.out (HP.out.keep (gtrans HK.out HKX.out)) HOK.out).mono ?_; rintro e X3 ⟨v, rfl, ha6, hk6⟩; have HV6 := hide1 ha6; have HSB := hide1 (HSB.out.keep hk6); have HKX := hide1 (gtrans HKX.out hk6); clear ha6 hk6)
          refine hK.out _ _ HKX.out (fun hHeld2 => ?_)
          clear hK K hHeld
          have hHeld := hHeld2
          clear hHeld2
          try simp only [Act.put, List.setIfInBounds_toArray, List.set_cons_zero, List.set_cons_succ]
          refine wpAnyH_ready (rs := [5]) (by kernel_rfl) (by simp) ?_
          refine AllReadyH.cons (i := 5) rfl (fun K hK => ?_) AllReadyH.nil
          · have HSO := HSB
            go_simp
            have HKN : Hid (Kept X3 (X3.alloc (.cells Tryd.zeroCells140 140))) := (Kept.refl _).alloc _ _
            have HSB := hide1 (HSB.out.keep HKN.out)
            have HZB := hide1 (sz_zero X3)
            have HLzb : Hid (W.heap.size ≤ X3.heap.size) := HKX.out.size
            have HNE : Hid (sb ≠ X3.heap.size) := Nat.ne_of_lt HSO.out.lt
            have HKX := hide1 (gtrans HKX.out HKN.out)
            refine hK.out _ _ HKX.out (fun hHeld2 => ?_)
            clear hK K hHeld
            have hHeld := hHeld2
            clear hHeld2
            try simp only [Act.put, List.setIfInBounds_toArray, List.set_cons_zero, List.set_cons_succ]
            obtain ⟨X4, hX4⟩ : ∃ X4, X3.alloc (.cells Tryd.zeroCells140 140) = X4 := ⟨_, rfl⟩
            rw [hX4] at HKX hHeld HSB HZB ⊢
            clear hX4 HKN
            obtain ⟨zb, hzb⟩ : ∃ zb, X3.heap.size = zb := ⟨_, rfl⟩
            rw [hzb] at HZB HLzb HNE ⊢
            clear hzb
            rw [setS_eq]
            refine wpAnyH_ready (rs := [6]) (by kernel_rfl) (by simp) ?_
            refine AllReadyH.cons (i := 6) rfl (fun K hK => ?_) AllReadyH.nil
            have a0 := HSB.out.cell (i := 0) (by omega)
            have a1 := HSB.out.cell (i := 1) (by omega)
            have z0 := HSB.out.free 0
            have z1 := HSB.out.free 1
            go_simp
            clear a0 a1 z0 z1
            have HBU : Hid (KeptBut sb X4 ((X4.setCell ⟨sb, 0, none⟩ (.int .u64 (wordAt A 0 : Nat))).setCell ⟨sb, 1, none⟩ (.int .u64 (wordAt A 1 : Nat)))) := but_set (but_set (but_refl sb X4) _ _) _ _
            have HS8 := hide1 (HSB.out.fill (B := A))
            have HZ8 := hide1 (HZB.out.but HBU.out (fun e => HNE.out e.symm))
            have HK8 := hide1 (KeptBut.up HKX.out HLsb.out HBU.out)
            refine hK.out _ _ HK8.out (fun hHeld2 => ?_)
            clear hK K hHeld
            have hHeld := hHeld2
            clear hHeld2
            try simp only [Act.put, List.setIfInBounds_toArray, List.set_cons_zero, List.set_cons_succ]
            obtain ⟨Y, hY⟩ : ∃ Y, ((X4.setCell ⟨sb, 0, none⟩ (.int .u64 (wordAt A 0 : Nat))).setCell ⟨sb, 1, none⟩ (.int .u64 (wordAt A 1 : Nat))) = Y := ⟨_, rfl⟩
            rw [hY] at HS8 HZ8 HK8 hHeld ⊢
            clear hY HBU
            refine wpAnyH_ready (rs := [7]) (by kernel_rfl) (by simp) ?_
            refine AllReadyH.cons (i := 7) rfl (fun K hK => ?_) AllReadyH.nil
            refine if_yes (by kernel_rfl) ?_
            refine wp_store_row 140 _ _ rfl zb (szV v) rfl rfl 140 (szV fun _ => 0) HZ8.out (sz_size v) (by rw [szV_size, szV_size]) (szV_one v) ?_
            have HBU : Hid (KeptBut zb Y (Y.setRow zb (szV v))) := setRow_butS _ _ _
            have HK9 := hide1 (KeptBut.up HK8.out HLzb.out HBU.out)
            have HS9 := hide1 (HS8.out.but HBU.out HNE.out)
            have HZ9 : Hid (SzB (Y.setRow zb (szV v)) zb v) := setRow_heap _ _ _ _ _ _ HZ8.out
            refine hK.out _ _ HK9.out (fun hHeld2 => ?_)
            clear hK K hHeld
            have hHeld := hHeld2
            clear hHeld2
            try simp only [Act.put, List.setIfInBounds_toArray, List.set_cons_zero, List.set_cons_succ]
            refine wpAnyH_done (by kernel_rfl) ?_ _
            clear hHeld
            go_wp2_with fail
            go_meet
            exact ⟨_, rfl, A, v, sb, zb, rfl, rfl, HA6.out, HV6.out, HK9.out, HS9.out, HZ9.out⟩
        · have HSO := HSB
          go_simp
          have HKN : Hid (Kept X2 (X2.alloc (.cells Tryd.zeroCells140 140))) := (Kept.refl _).alloc _ _
          have HSB := hide1 (HSB.out.keep HKN.out)
          have HZB := hide1 (sz_zero X2)
          have HLzb : Hid (W.heap.size ≤ X2.heap.size) := HKX.out.size
          have HNE : Hid (sb ≠ X2.heap.size) := Nat.ne_of_lt HSO.out.lt
          have HKX := hide1 (gtrans HKX.out HKN.out)
          refine hK.out _ _ HKX.out (fun hHeld2 => ?_)
          clear hK K hHeld
          have hHeld := hHeld2
          clear hHeld2
          try simp only [Act.put, List.setIfInBounds_toArray, List.set_cons_zero, List.set_cons_succ]
          obtain ⟨X3, hX3⟩ : ∃ X3, X2.alloc (.cells Tryd.zeroCells140 140) = X3 := ⟨_, rfl⟩
          rw [hX3] at HKX hHeld HSB HZB ⊢
          clear hX3 HKN
          obtain ⟨zb, hzb⟩ : ∃ zb, X2.heap.size = zb := ⟨_, rfl⟩
          rw [hzb] at HZB HLzb HNE ⊢
          clear hzb
          refine wpAnyH_ready (rs := [3]) (by kernel_rfl) (by simp) ?_
          refine AllReadyH.cons (i := 3) rfl (fun K hK => ?_) AllReadyH.nil
          · go_simp
            go_wp2_with (go_at_call 85; refine (emptySizes_is ps x0 (.slice an nn cn) x2 ap np cp _ HPS.out (HP.out.keep (gtrans HK.out HKX.out)) HOK.out).mono ?_; rintro e X4 ⟨v, rfl, ha6, hk6⟩; have HV6 := hide1 ha6; have HSB := hide1 (HSB.out.keep hk6); have HZB := hide1 (HZB.out.keep hk6); have HKX := hide1 (gtrans HKX.out hk6); clear ha6 hk6)
            refine hK.out _ _ HKX.out (fun hHeld2 => ?_)
            clear hK K hHeld
            have hHeld := hHeld2
            clear hHeld2
            try simp only [Act.put, List.setIfInBounds_toArray, List.set_cons_zero, List.set_cons_succ]
            rw [setS_eq]
            refine wpAnyH_ready (rs := [6]) (by kernel_rfl) (by simp) ?_
            refine AllReadyH.cons (i := 6) rfl (fun K hK => ?_) AllReadyH.nil
            have a0 := HSB.out.cell (i := 0) (by omega)
            have a1 := HSB.out.cell (i := 1) (by omega)
            have z0 := HSB.out.free 0
            have z1 := HSB.out.free 1
            go_simp
            clear a0 a1 z0 z1
            have HBU : Hid (KeptBut sb X4 ((X4.setCell ⟨sb, 0, none⟩ (.int .u64 (wordAt A 0 : Nat))).setCell ⟨sb, 1, none⟩ (.int .u64 (wordAt A 1 : Nat)))) := but_set (but_set (but_refl sb X4) _ _) _ _
            have HS8 := hide1 (HSB.out.fill (B := A))
            have HZ8 := hide1 (HZB.out.but HBU.out (fun e => HNE.out e.symm))
            have HK8 := hide1 (KeptBut.up HKX.out HLsb.out HBU.out)
            refine hK.out _ _ HK8.out (fun hHeld2 => ?_)
            clear hK K hHeld
            have hHeld := hHeld2
            clear hHeld2
            try simp only [Act.put, List.setIfInBounds_toArray, List.set_cons_zero, List.set_cons_succ]
            obtain ⟨Y, hY⟩ : ∃ Y, ((X4.setCell ⟨sb, 0, none⟩ (.int .u64 (wordAt A 0 : Nat))).setCell ⟨sb, 1, none⟩ (.int .u64 (wordAt A 1 : Nat))) = Y := ⟨_, rfl⟩
            rw [hY] at HS8 HZ8 HK8 hHeld ⊢
            clear hY HBU
            refine wpAnyH_ready (rs := [7]) (by kernel_rfl) (by simp) ?_
            refine AllReadyH.cons (i := 7) rfl (fun K hK => ?_) AllReadyH.nil
            refine if_yes (by kernel_rfl) ?_
            refine wp_store_row 140 _ _ rfl zb (szV v) rfl rfl 140 (szV fun _ => 0) HZ8.out (sz_size v) (by rw [szV_size, szV_size]) (szV_one v) ?_
            have HBU : Hid (KeptBut zb Y (Y.setRow zb (szV v))) := setRow_butS _ _ _
            have HK9 := hide1 (KeptBut.up HK8.out HLzb.out HBU.out)
            have HS9 := hide1 (HS8.out.but HBU.out HNE.out)
            have HZ9 : Hid (SzB (Y.setRow zb (szV v)) zb v) := setRow_heap _ _ _ _ _ _ HZ8.out
            refine hK.out _ _ HK9.out (fun hHeld2 => ?_)
            clear hK K hHeld
            have hHeld := hHeld2
            clear hHeld2
            try simp only [Act.put, List.setIfInBounds_toArray, List.set_cons_zero, List.set_cons_succ]
            refine wpAnyH_done (by kernel_rfl) ?_ _
            clear hHeld
            go_wp2_with fail
            go_meet
            exact ⟨_, rfl, A, v, sb, zb, rfl, rfl, HA6.out, HV6.out, HK9.out, HS9.out, HZ9.out⟩
      · have HSO := HSB
        go_simp
        have HKN : Hid (Kept X1 (X1.alloc (.cells Tryd.zeroCells140 140))) := (Kept.refl _).alloc _ _
        have HSB := hide1 (HSB.out.keep HKN.out)
        have HZB := hide1 (sz_zero X1)
        have HLzb : Hid (W.heap.size ≤ X1.heap.size) := HKX.out.size
        have HNE : Hid (sb ≠ X1.heap.size) := Nat.ne_of_lt HSO.out.lt
        have HKX := hide1 (gtrans HKX.out HKN.out)
        refine hK.out _ _ HKX.out (fun hHeld2 => ?_)
        clear hK K hHeld
        have hHeld := hHeld2
        clear hHeld2
        try simp only [Act.put, List.setIfInBounds_toArray, List.set_cons_zero, List.set_cons_succ]
        obtain ⟨X2, hX2⟩ : ∃ X2, X1.alloc (.cells Tryd.zeroCells140 140) = X2 := ⟨_, rfl⟩
        rw [hX2] at HKX hHeld HSB HZB ⊢
        clear hX2 HKN
        obtain ⟨zb, hzb⟩ : ∃ zb, X1.heap.size = zb := ⟨_, rfl⟩
        rw [hzb] at HZB HLzb HNE ⊢
        clear hzb
        refine wpAnyH_ready (rs := [1]) (by kernel_rfl) (by simp) ?_
        refine AllReadyH.cons (i := 1) rfl (fun K hK => ?_) AllReadyH.nil
        · go_simp
          go_wp2_with (go_at_call 43; refine (making_is false ps x0 (.slice an nn cn) x2 ap np cp _ HPS.out (HP.out.keep (gtrans HK.out HKX.out)) HOK.out).mono ?_; rintro e X3 ⟨A, rfl, ha6, hb6, hk6⟩; have HA6 := hide1 ha6; have HSB := hide1 (HSB.out.keep hk6); have HZB := hide1 (HZB.out.keep hk6); have HKX := hide1 (gtrans HKX.out hk6); clear ha6 hb6 hk6)
          refine hK.out _ _ HKX.out (fun hHeld2 => ?_)
          clear hK K hHeld
          have hHeld := hHeld2
          clear hHeld2
          try simp only [Act.put, List.setIfInBounds_toArray, List.set_cons_zero, List.set_cons_succ]
          refine wpAnyH_ready (rs := [3]) (by kernel_rfl) (by simp) ?_
          refine AllReadyH.cons (i := 3) rfl (fun K hK => ?_) AllReadyH.nil
          · go_simp
            go_wp2_with (go_at_call 85; refine (emptySizes_is ps x0 (.slice an nn cn) x2 ap np cp _ HPS.out (HP.out.keep (gtrans HK.out HKX.out)) HOK.out).mono ?_; rintro e X4 ⟨v, rfl, ha6, hk6⟩; have HV6 := hide1 ha6; have HSB := hide1 (HSB.out.keep hk6); have HZB := hide1 (HZB.out.keep hk6); have HKX := hide1 (gtrans HKX.out hk6); clear ha6 hk6)
            refine hK.out _ _ HKX.out (fun hHeld2 => ?_)
            clear hK K hHeld
            have hHeld := hHeld2
            clear hHeld2
            try simp only [Act.put, List.setIfInBounds_toArray, List.set_cons_zero, List.set_cons_succ]
            rw [setS_eq]
            refine wpAnyH_ready (rs := [6]) (by kernel_rfl) (by simp) ?_
            refine AllReadyH.cons (i := 6) rfl (fun K hK => ?_) AllReadyH.nil
            have a0 := HSB.out.cell (i := 0) (by omega)
            have a1 := HSB.out.cell (i := 1) (by omega)
            have z0 := HSB.out.free 0
            have z1 := HSB.out.free 1
            go_simp
            clear a0 a1 z0 z1
            have HBU : Hid (KeptBut sb X4 ((X4.setCell ⟨sb, 0, none⟩ (.int .u64 (wordAt A 0 : Nat))).setCell ⟨sb, 1, none⟩ (.int .u64 (wordAt A 1 : Nat)))) := but_set (but_set (but_refl sb X4) _ _) _ _
            have HS8 := hide1 (HSB.out.fill (B := A))
            have HZ8 := hide1 (HZB.out.but HBU.out (fun e => HNE.out e.symm))
            have HK8 := hide1 (KeptBut.up HKX.out HLsb.out HBU.out)
            refine hK.out _ _ HK8.out (fun hHeld2 => ?_)
            clear hK K hHeld
            have hHeld := hHeld2
            clear hHeld2
            try simp only [Act.put, List.setIfInBounds_toArray, List.set_cons_zero, List.set_cons_succ]
            obtain ⟨Y, hY⟩ : ∃ Y, ((X4.setCell ⟨sb, 0, none⟩ (.int .u64 (wordAt A 0 : Nat))).setCell ⟨sb, 1, none⟩ (.int .u64 (wordAt A 1 : Nat))) = Y := ⟨_, rfl⟩
            rw [hY] at HS8 HZ8 HK8 hHeld ⊢
            clear hY HBU
            refine wpAnyH_ready (rs := [7]) (by kernel_rfl) (by simp) ?_
            refine AllReadyH.cons (i := 7) rfl (fun K hK => ?_) AllReadyH.nil
            refine if_yes (by kernel_rfl) ?_
            refine wp_store_row 140 _ _ rfl zb (szV v) rfl rfl 140 (szV fun _ => 0) HZ8.out (sz_size v) (by rw [szV_size, szV_size]) (szV_one v) ?_
            have HBU : Hid (KeptBut zb Y (Y.setRow zb (szV v))) := setRow_butS _ _ _
            have HK9 := hide1 (KeptBut.up HK8.out HLzb.out HBU.out)
            have HS9 := hide1 (HS8.out.but HBU.out HNE.out)
            have HZ9 : Hid (SzB (Y.setRow zb (szV v)) zb v) := setRow_heap _ _ _ _ _ _ HZ8.out
            refine hK.out _ _ HK9.out (fun hHeld2 => ?_)
            clear hK K hHeld
            have hHeld := hHeld2
            clear hHeld2
            try simp only [Act.put, List.setIfInBounds_toArray, List.set_cons_zero, List.set_cons_succ]
            refine wpAnyH_done (by kernel_rfl) ?_ _
            clear hHeld
            go_wp2_with fail
            go_meet
            exact ⟨_, rfl, A, v, sb, zb, rfl, rfl, HA6.out, HV6.out, HK9.out, HS9.out, HZ9.out⟩
    · go_simp
      have HKN : Hid (Kept X0 (X0.alloc (.cells Tryd.zeroCells140 140))) := (Kept.refl _).alloc _ _
      have HZB := hide1 (sz_zero X0)
      have HLzb : Hid (W.heap.size ≤ X0.heap.size) := HKX.out.size
      have HKX := hide1 (gtrans HKX.out HKN.out)
      refine hK.out _ _ HKX.out (fun hHeld2 => ?_)
      clear hK K hHeld
      have hHeld := hHeld2
      clear hHeld2
      try simp only [Act.put, List.setIfInBounds_toArray, List.set_cons_zero, List.set_cons_succ]
      obtain ⟨X1, hX1⟩ : ∃ X1, X0.alloc (.cells Tryd.zeroCells140 140) = X1 := ⟨_, rfl⟩
      rw [hX1] at HKX hHeld HZB ⊢
      clear hX1 HKN
      obtain ⟨zb, hzb⟩ : ∃ zb, X0.heap.size = zb := ⟨_, rfl⟩
      rw [hzb] at HZB HLzb ⊢
      clear hzb
      refine wpAnyH_ready (rs := [1, 4]) (by kernel_rfl) (by simp) ?_
      refine AllReadyH.cons (i := 1) rfl (fun K hK => ?_) (AllReadyH.cons (i := 4) rfl (fun K hK => ?_) AllReadyH.nil)
      · go_simp
        go_wp2_with (go_at_call 43; refine (making_is false ps x0 (.slice an nn cn) x2 ap np cp _ HPS.out (HP.out.keep (gtrans HK.out HKX.out)) HOK.out).mono ?_; rintro e X2 ⟨A, rfl, ha6, hb6, hk6⟩; have HA6 := hide1 ha6; have HZB := hide1 (HZB.out.keep hk6); have HKX := hide1 (gtrans HKX.out hk6); clear ha6 hb6 hk6)
        refine hK.out _ _ HKX.out (fun hHeld2 => ?_)
        clear hK K hHeld
        have hHeld := hHeld2
        clear hHeld2
        try simp only [Act.put, List.setIfInBounds_toArray, List.set_cons_zero, List.set_cons_succ]
        refine wpAnyH_ready (rs := [3, 4]) (by kernel_rfl) (by simp) ?_
        refine AllReadyH.cons (i := 3) rfl (fun K hK => ?_) (AllReadyH.cons (i := 4) rfl (fun K hK => ?_) AllReadyH.nil)
        · go_simp
          go_wp2_with (go_at_call 85; refine (emptySizes_is ps x0 (.slice an nn cn) x2 ap np cp _ HPS.out (HP.out.keep (gtrans HK.out HKX.out)) HOK.out).mono ?_; rintro e X3 ⟨v, rfl, ha6, hk6⟩; have HV6 := hide1 ha6; have HZB := hide1 (HZB.out.keep hk6); have HKX := hide1 (gtrans HKX.out hk6); clear ha6 hk6)
          refine hK.out _ _ HKX.out (fun hHeld2 => ?_)
          clear hK K hHeld
          have hHeld := hHeld2
          clear hHeld2
          try simp only [Act.put, List.setIfInBounds_toArray, List.set_cons_zero, List.set_cons_succ]
          refine wpAnyH_ready (rs := [4]) (by kernel_rfl) (by simp) ?_
          refine AllReadyH.cons (i := 4) rfl (fun K hK => ?_) AllReadyH.nil
          · have HZO := HZB
            go_simp
            have HKN : Hid (Kept X3 (X3.alloc (.cells #[.int .u64 0, .int .u64 0] 75))) := (Kept.refl _).alloc _ _
            have HZB := hide1 (HZB.out.keep HKN.out)
            have HSB : Hid (SetB (X3.alloc (.cells #[.int .u64 0, .int .u64 0] 75)) X3.heap.size 0) := heap_alloc_new _ _
            have HLsb : Hid (W.heap.size ≤ X3.heap.size) := HKX.out.size
            have HNE : Hid (X3.heap.size ≠ zb) := Nat.ne_of_gt HZO.out.lt
            have HKX := hide1 (gtrans HKX.out HKN.out)
            refine hK.out _ _ HKX.out (fun hHeld2 => ?_)
            clear hK K hHeld
            have hHeld := hHeld2
            clear hHeld2
            try simp only [Act.put, List.setIfInBounds_toArray, List.set_cons_zero, List.set_cons_succ]
            obtain ⟨X4, hX4⟩ : ∃ X4, X3.alloc (.cells #[.int .u64 0, .int .u64 0] 75) = X4 := ⟨_, rfl⟩
            rw [hX4] at HKX hHeld HSB HZB ⊢
            clear hX4 HKN
            obtain ⟨sb, hsb⟩ : ∃ sb, X3.heap.size = sb := ⟨_, rfl⟩
            rw [hsb] at HSB HLsb HNE ⊢
            clear hsb
            rw [setS_eq]
            refine wpAnyH_ready (rs := [6]) (by kernel_rfl) (by simp) ?_
            refine AllReadyH.cons (i := 6) rfl (fun K hK => ?_) AllReadyH.nil
            have a0 := HSB.out.cell (i := 0) (by omega)
            have a1 := HSB.out.cell (i := 1) (by omega)
            have z0 := HSB.out.free 0
            have z1 := HSB.out.free 1
            go_simp
            clear a0 a1 z0 z1
            have HBU : Hid (KeptBut sb X4 ((X4.setCell ⟨sb, 0, none⟩ (.int .u64 (wordAt A 0 : Nat))).setCell ⟨sb, 1, none⟩ (.int .u64 (wordAt A 1 : Nat)))) := but_set (but_set (but_refl sb X4) _ _) _ _
            have HS8 := hide1 (HSB.out.fill (B := A))
            have HZ8 := hide1 (HZB.out.but HBU.out (fun e => HNE.out e.symm))
            have HK8 := hide1 (KeptBut.up HKX.out HLsb.out HBU.out)
            refine hK.out _ _ HK8.out (fun hHeld2 => ?_)
            clear hK K hHeld
            have hHeld := hHeld2
            clear hHeld2
            try simp only [Act.put, List.setIfInBounds_toArray, List.set_cons_zero, List.set_cons_succ]
            obtain ⟨Y, hY⟩ : ∃ Y, ((X4.setCell ⟨sb, 0, none⟩ (.int .u64 (wordAt A 0 : Nat))).setCell ⟨sb, 1, none⟩ (.int .u64 (wordAt A 1 : Nat))) = Y := ⟨_, rfl⟩
            rw [hY] at HS8 HZ8 HK8 hHeld ⊢
            clear hY HBU
            refine wpAnyH_ready (rs := [7]) (by kernel_rfl) (by simp) ?_
            refine AllReadyH.cons (i := 7) rfl (fun K hK => ?_) AllReadyH.nil
            refine if_yes (by kernel_rfl) ?_
            refine wp_store_row 140 _ _ rfl zb (szV v) rfl rfl 140 (szV fun _ => 0) HZ8.out (sz_size v) (by rw [szV_size, szV_size]) (szV_one v) ?_
            have HBU : Hid (KeptBut zb Y (Y.setRow zb (szV v))) := setRow_butS _ _ _
            have HK9 := hide1 (KeptBut.up HK8.out HLzb.out HBU.out)
            have HS9 := hide1 (HS8.out.but HBU.out HNE.out)
            have HZ9 : Hid (SzB (Y.setRow zb (szV v)) zb v) := setRow_heap _ _ _ _ _ _ HZ8.out
            refine hK.out _ _ HK9.out (fun hHeld2 => ?_)
            clear hK K hHeld
            have hHeld := hHeld2
            clear hHeld2
            try simp only [Act.put, List.setIfInBounds_toArray, List.set_cons_zero, List.set_cons_succ]
            refine wpAnyH_done (by kernel_rfl) ?_ _
            clear hHeld
            go_wp2_with fail
            go_meet
            exact ⟨_, rfl, A, v, sb, zb, rfl, rfl, HA6.out, HV6.out, HK9.out, HS9.out, HZ9.out⟩
        · have HZO := HZB
          go_simp
          have HKN : Hid (Kept X2 (X2.alloc (.cells #[.int .u64 0, .int .u64 0] 75))) := (Kept.refl _).alloc _ _
          have HZB := hide1 (HZB.out.keep HKN.out)
          have HSB : Hid (SetB (X2.alloc (.cells #[.int .u64 0, .int .u64 0] 75)) X2.heap.size 0) := heap_alloc_new _ _
          have HLsb : Hid (W.heap.size ≤ X2.heap.size) := HKX.out.size
          have HNE : Hid (X2.heap.size ≠ zb) := Nat.ne_of_gt HZO.out.lt
          have HKX := hide1 (gtrans HKX.out HKN.out)
          refine hK.out _ _ HKX.out (fun hHeld2 => ?_)
          clear hK K hHeld
          have hHeld := hHeld2
          clear hHeld2
          try simp only [Act.put, List.setIfInBounds_toArray, List.set_cons_zero, List.set_cons_succ]
          obtain ⟨X3, hX3⟩ : ∃ X3, X2.alloc (.cells #[.int .u64 0, .int .u64 0] 75) = X3 := ⟨_, rfl⟩
          rw [hX3] at HKX hHeld HSB HZB ⊢
          clear hX3 HKN
          obtain ⟨sb, hsb⟩ : ∃ sb, X2.heap.size = sb := ⟨_, rfl⟩
          rw [hsb] at HSB HLsb HNE ⊢
          clear hsb
          refine wpAnyH_ready (rs := [3]) (by kernel_rfl) (by simp) ?_
          refine AllReadyH.cons (i := 3) rfl (fun K hK => ?_) AllReadyH.nil
          · go_simp
            go_wp2_with (go_at_call 85; refine (emptySizes_is ps x0 (.slice an nn cn) x2 ap np cp _ HPS.out (HP.out.keep (gtrans HK.out HKX.out)) HOK.out).mono ?_; rintro e X4 ⟨v, rfl, ha6, hk6⟩; have HV6 := hide1 ha6; have HSB := hide1 (HSB.out.keep hk6); have HZB := hide1 (HZB.out.keep hk6); have HKX := hide1 (gtrans HKX.out hk6); clear ha6 hk6)
            refine hK.out _ _ HKX.out (fun hHeld2 => ?_)
            clear hK K hHeld
            have hHeld := hHeld2
            clear hHeld2
            try simp only [Act.put, List.setIfInBounds_toArray, List.set_cons_zero, List.set_cons_succ]
            rw [setS_eq]
            refine wpAnyH_ready (rs := [6]) (by kernel_rfl) (by simp) ?_
            refine AllReadyH.cons (i := 6) rfl (fun K hK => ?_) AllReadyH.nil
            have a0 := HSB.out.cell (i := 0) (by omega)
            have a1 := HSB.out.cell (i := 1) (by omega)
            have z0 := HSB.out.free 0
            have z1 := HSB.out.free 1
            go_simp
            clear a0 a1 z0 z1
            have HBU : Hid (KeptBut sb X4 ((X4.setCell ⟨sb, 0, none⟩ (.int .u64 (wordAt A 0 : Nat))).setCell ⟨sb, 1, none⟩ (.int .u64 (wordAt A 1 : Nat)))) := but_set (but_set (but_refl sb X4) _ _) _ _
            have HS8 := hide1 (HSB.out.fill (B := A))
            have HZ8 := hide1 (HZB.out.but HBU.out (fun e => HNE.out e.symm))
            have HK8 := hide1 (KeptBut.up HKX.out HLsb.out HBU.out)
            refine hK.out _ _ HK8.out (fun hHeld2 => ?_)
            clear hK K hHeld
            have hHeld := hHeld2
            clear hHeld2
            try simp only [Act.put, List.setIfInBounds_toArray, List.set_cons_zero, List.set_cons_succ]
            obtain ⟨Y, hY⟩ : ∃ Y, ((X4.setCell ⟨sb, 0, none⟩ (.int .u64 (wordAt A 0 : Nat))).setCell ⟨sb, 1, none⟩ (.int .u64 (wordAt A 1 : Nat))) = Y := ⟨_, rfl⟩
            rw [hY] at HS8 HZ8 HK8 hHeld ⊢
            clear hY HBU
            refine wpAnyH_ready (rs := [7]) (by kernel_rfl) (by simp) ?_
            refine AllReadyH.cons (i := 7) rfl (fun K hK => ?_) AllReadyH.nil
            refine if_yes (by kernel_rfl) ?_
            refine wp_store_row 140 _ _ rfl zb (szV v) rfl rfl 140 (szV fun _ => 0) HZ8.out (sz_size v) (by rw [szV_size, szV_size]) (szV_one v) ?_
            have HBU : Hid (KeptBut zb Y (Y.setRow zb (szV v))) := setRow_butS _ _ _
            have HK9 := hide1 (KeptBut.up HK8.out HLzb.out HBU.out)
            have HS9 := hide1 (HS8.out.but HBU.out HNE.out)
            have HZ9 : Hid (SzB (Y.setRow zb (szV v)) zb v) := setRow_heap _ _ _ _ _ _ HZ8.out
            refine hK.out _ _ HK9.out (fun hHeld2 => ?_)
            clear hK K hHeld
            have hHeld := hHeld2
            clear hHeld2
            try simp only [Act.put, List.setIfInBounds_toArray, List.set_cons_zero, List.set_cons_succ]
            refine wpAnyH_done (by kernel_rfl) ?_ _
            clear hHeld
            go_wp2_with fail
            go_meet
            exact ⟨_, rfl, A, v, sb, zb, rfl, rfl, HA6.out, HV6.out, HK9.out, HS9.out, HZ9.out⟩
      · have HZO := HZB
        go_simp
        have HKN : Hid (Kept X1 (X1.alloc (.cells #[.int .u64 0, .int .u64 0] 75))) := (Kept.refl _).alloc _ _
        have HZB := hide1 (HZB.out.keep HKN.out)
        have HSB : Hid (SetB (X1.alloc (.cells #[.int .u64 0, .int .u64 0] 75)) X1.heap.size 0) := heap_alloc_new _ _
        have HLsb : Hid (W.heap.size ≤ X1.heap.size) := HKX.out.size
        have HNE : Hid (X1.heap.size ≠ zb) := Nat.ne_of_gt HZO.out.lt
        have HKX := hide1 (gtrans HKX.out HKN.out)
        refine hK.out _ _ HKX.out (fun hHeld2 => ?_)
        clear hK K hHeld
        have hHeld := hHeld2
        clear hHeld2
        try simp only [Act.put, List.setIfInBounds_toArray, List.set_cons_zero, List.set_cons_succ]
        obtain ⟨X2, hX2⟩ : ∃ X2, X1.alloc (.cells #[.int .u64 0, .int .u64 0] 75) = X2 := ⟨_, rfl⟩
        rw [hX2] at HKX hHeld HSB HZB ⊢
        clear hX2 HKN
        obtain ⟨sb, hsb⟩ : ∃ sb, X1.heap.size = sb := ⟨_, rfl⟩
        rw [hsb] at HSB HLsb HNE ⊢
        clear hsb
        refine wpAnyH_ready (rs := [1]) (by kernel_rfl) (by simp) ?_
        refine AllReadyH.cons (i := 1) rfl (fun K hK => ?_) AllReadyH.nil
        · go_simp
          go_wp2_with (go_at_call 43; refine (making_is false ps x0 (.slice an nn cn) x2 ap np cp _ HPS.out (HP.out.keep (gtrans HK.out HKX.out)) HOK.out).mono ?_; rintro e X3 ⟨A, rfl, ha6, hb6, hk6⟩; have HA6 := hide1 ha6; have HSB := hide1 (HSB.out.keep hk6); have HZB := hide1 (HZB.out.keep hk6); have HKX := hide1 (gtrans HKX.out hk6); clear ha6 hb6 hk6)
          refine hK.out _ _ HKX.out (fun hHeld2 => ?_)
          clear hK K hHeld
          have hHeld := hHeld2
          clear hHeld2
          try simp only [Act.put, List.setIfInBounds_toArray, List.set_cons_zero, List.set_cons_succ]
          refine wpAnyH_ready (rs := [3]) (by kernel_rfl) (by simp) ?_
          refine AllReadyH.cons (i := 3) rfl (fun K hK => ?_) AllReadyH.nil
          · go_simp
            go_wp2_with (go_at_call 85; refine (emptySizes_is ps x0 (.slice an nn cn) x2 ap np cp _ HPS.out (HP.out.keep (gtrans HK.out HKX.out)) HOK.out).mono ?_; rintro e X4 ⟨v, rfl, ha6, hk6⟩; have HV6 := hide1 ha6; have HSB := hide1 (HSB.out.keep hk6); have HZB := hide1 (HZB.out.keep hk6); have HKX := hide1 (gtrans HKX.out hk6); clear ha6 hk6)
            refine hK.out _ _ HKX.out (fun hHeld2 => ?_)
            clear hK K hHeld
            have hHeld := hHeld2
            clear hHeld2
            try simp only [Act.put, List.setIfInBounds_toArray, List.set_cons_zero, List.set_cons_succ]
            rw [setS_eq]
            refine wpAnyH_ready (rs := [6]) (by kernel_rfl) (by simp) ?_
            refine AllReadyH.cons (i := 6) rfl (fun K hK => ?_) AllReadyH.nil
            have a0 := HSB.out.cell (i := 0) (by omega)
            have a1 := HSB.out.cell (i := 1) (by omega)
            have z0 := HSB.out.free 0
            have z1 := HSB.out.free 1
            go_simp
            clear a0 a1 z0 z1
            have HBU : Hid (KeptBut sb X4 ((X4.setCell ⟨sb, 0, none⟩ (.int .u64 (wordAt A 0 : Nat))).setCell ⟨sb, 1, none⟩ (.int .u64 (wordAt A 1 : Nat)))) := but_set (but_set (but_refl sb X4) _ _) _ _
            have HS8 := hide1 (HSB.out.fill (B := A))
            have HZ8 := hide1 (HZB.out.but HBU.out (fun e => HNE.out e.symm))
            have HK8 := hide1 (KeptBut.up HKX.out HLsb.out HBU.out)
            refine hK.out _ _ HK8.out (fun hHeld2 => ?_)
            clear hK K hHeld
            have hHeld := hHeld2
            clear hHeld2
            try simp only [Act.put, List.setIfInBounds_toArray, List.set_cons_zero, List.set_cons_succ]
            obtain ⟨Y, hY⟩ : ∃ Y, ((X4.setCell ⟨sb, 0, none⟩ (.int .u64 (wordAt A 0 : Nat))).setCell ⟨sb, 1, none⟩ (.int .u64 (wordAt A 1 : Nat))) = Y := ⟨_, rfl⟩
            rw [hY] at HS8 HZ8 HK8 hHeld ⊢
            clear hY HBU
            refine wpAnyH_ready (rs := [7]) (by kernel_rfl) (by simp) ?_
            refine AllReadyH.cons (i := 7) rfl (fun K hK => ?_) AllReadyH.nil
            refine if_yes (by kernel_rfl) ?_
            refine wp_store_row 140 _ _ rfl zb (szV v) rfl rfl 140 (szV fun _ => 0) HZ8.out (sz_size v) (by rw [szV_size, szV_size]) (szV_one v) ?_
            have HBU : Hid (KeptBut zb Y (Y.setRow zb (szV v))) := setRow_butS _ _ _
            have HK9 := hide1 (KeptBut.up HK8.out HLzb.out HBU.out)
            have HS9 := hide1 (HS8.out.but HBU.out HNE.out)
            have HZ9 : Hid (SzB (Y.setRow zb (szV v)) zb v) := setRow_heap _ _ _ _ _ _ HZ8.out
            refine hK.out _ _ HK9.out (fun hHeld2 => ?_)
            clear hK K hHeld
            have hHeld := hHeld2
            clear hHeld2
            try simp only [Act.put, List.setIfInBounds_toArray, List.set_cons_zero, List.set_cons_succ]
            refine wpAnyH_done (by kernel_rfl) ?_ _
            clear hHeld
            go_wp2_with fail
            go_meet
            exact ⟨_, rfl, A, v, sb, zb, rfl, rfl, HA6.out, HV6.out, HK9.out, HS9.out, HZ9.out⟩
  case rest =>
    obtain ⟨wx, hwx, A, v, sb, zb, rfl, rfl, hA, hV, hKX, hS, hZ⟩ := hcut
    subst hwx
    have HA6 := hide1 hA
    have HV6 := hide1 hV
    have HK7 := hide1 (gtrans HK.out hKX)
    have HF7 := hide1 (HF.out.keep hKX)
    have HS7 := hide1 hS
    have HZ7 := hide1 hZ
    obtain ⟨s0, s1, s2, s3⟩ := (HB.out.keep hKX).facts
    clear hA hV hKX hS hZ
    go_wp2_with fail
    clear s0 s1 s2 s3
    go_loopw [13] (CeI A v wx) (fun i _ => nn - (intOf i).toNat)
    case atStart => exact ⟨0, rfl, fun k hk => by omega, Kept.refl _⟩
    case round =>
      obtain ⟨j, rfl, HJ, HKr⟩ := hrel
      have HF8 := hide1 (HF7.out.keep HKr.out)
      by_cases hlt : (j : Int) < (nn : Int)
      · have a0 := (HS7.out.keep HKr.out).cell (i := 0) (by omega)
        have a1 := (HS7.out.keep HKr.out).cell (i := 1) (by omega)
        have hj8 : j < 128 := by omega
        have gj8 : (j : Int) < 128 := by omega
        have HJ8 := hide1 hj8
        have HZr := hide1 (HZ7.out.keep HKr.out)
        cases hbit : A.testBit j with
        | false =>
          have HBT := hide1 hbit
          clear hbit hj8
          go_wp2_with (go_at_call 44; refine (sHas_is A j HJ8.out _).mono ?_; rintro e w8 ⟨rfl, hk8⟩; rw [HBT.out]; have HK8 := hide1 (gtrans HKr.out hk8); clear hk8)
          go_roundw
          case rel => exact ⟨j + 1, by go_num, fun k hk => (by rcases Nat.lt_or_ge k j with h | h; exact HJ.out k h; rw [show k = j by omega]; intro h2; rw [HBT.out] at h2; cases h2), HK8⟩
          case measure => simp [intOf]; omega
        | true =>
          have HBT := hide1 hbit
          obtain ⟨z, hz⟩ : ∃ z, v j = z := ⟨_, rfl⟩
          have HZE := hide1 hz
          clear hbit hj8
          by_cases h257 : z = 257
          · have hb : ((z : Int) == 257) = true := by rw [h257]; rfl
            have HZN := hide1 h257
            clear h257 hz
            go_wp2_with (go_at_call 44; refine (sHas_is A j HJ8.out _).mono ?_; rintro e w8 ⟨rfl, hk8⟩; rw [HBT.out]; have HK8 := hide1 (gtrans HKr.out hk8); have s0 := (HZr.out.keep hk8).cell HJ8.out; rw [HZE.out] at s0; have HF9 := hide1 (HF8.out.keep hk8); obtain ⟨⟨f0, f1, f2⟩, z0, z1, z2⟩ := HF9.out.cells; clear hk8)
            refine bodyPost_ret (results_cell_row rfl _ _ (b + 1) 44 _ (0, 0) _ rfl (HF9.out.fill 6 (j : Int)) Tryd.underlying44 rfl (fault_size _ _)) rfl ?_
            refine ⟨(6, (j : Int)), rfl, .inl ⟨j, by omega, fun h => ?_, fun k hk hm => (ez_small HV6.out k).2 (HJ.out k hk ((HA6.out k).2 hm)), rfl⟩, keepB (keepB (keepB (gtrans HK7.out HK8.out) (by rw [HSZ.out]; omega)) (by rw [HSZ.out]; omega)) (by rw [HSZ.out]; omega)⟩
            exact (ez_small HV6.out j).1 (h ((HA6.out j).1 HBT.out)) (HZE.out.trans HZN.out)
          · have hb : ((z : Int) == 257) = false := by
              rw [beq_eq_false_iff_ne]
              omega
            have HZN := hide1 h257
            clear h257 hz
            go_wp2_with (go_at_call 44; refine (sHas_is A j HJ8.out _).mono ?_; rintro e w8 ⟨rfl, hk8⟩; rw [HBT.out]; have HK8 := hide1 (gtrans HKr.out hk8); have s0 := (HZr.out.keep hk8).cell HJ8.out; rw [HZE.out] at s0; clear hk8)
            go_roundw
            case rel => exact ⟨j + 1, by go_num, fun k hk => (by rcases Nat.lt_or_ge k j with h | h; exact HJ.out k h; rw [show k = j by omega]; intro _ h2; exact HZN.out (HZE.out.symm.trans h2)), HK8⟩
            case measure => simp [intOf]; omega
      · obtain ⟨⟨f0, f1, f2⟩, z0, z1, z2⟩ := HF8.out.cells
        go_wp2_with fail
        refine bodyPost_ret (results_cell_row rfl _ _ (b + 1) 44 _ (0, 0) _ rfl (HF8.out.fill 0 0) Tryd.underlying44 rfl (fault_size _ _)) rfl ?_
        exact ⟨(0, 0), rfl, .inr ⟨fun k hk hm => (ez_small HV6.out k).2 (HJ.out k (by omega) ((HA6.out k).2 hm)), rfl⟩, keepB (keepB (keepB (gtrans HK7.out HKr.out) (by rw [HSZ.out]; omega)) (by rw [HSZ.out]; omega)) (by rw [HSZ.out]; omega)⟩

end Ex
end Go.Proofs.YtooelfjceehmmaaDoor
