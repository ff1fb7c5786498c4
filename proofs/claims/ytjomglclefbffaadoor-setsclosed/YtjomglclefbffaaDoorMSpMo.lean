import Derived.Test.YtjomglclefbffaaDoorMSpPm
namespace Go.Proofs.YtjomglclefbffaaDoor
open Go.RowKit
attribute [local go_sem] Oper.semAt_some
namespace Ex

/-- A symbol that a trip may meet. -/
def SymIn (ps : List ProdM) (y : SymM) : Prop := (y.1 = 1 ∧ 0 ≤ y.2) ∨ y.1 = 2 ∨ (y.1 = 3 ∧ 0 ≤ y.2 ∧ ∃ p ∈ ps, p.1 = y.2)
/-- The contract of makes, with so many steps left. -/
def MakC (W0 : World) (b : Nat) (x0 x1 x2 x3 pk : Value) (nl : Nat) (ps : List ProdM) (N : Nat) : Prop := ∀ (y : SymM) (at_ st : Nat) (out : List Int) (o : Value) (w : World), 401 ≤ st + N → st ≤ 400 → SymIn ps y → Tp W0 b x0 x1 x2 x3 pk at_ out st o w → Calls Tryd.prog 12 #[.pointer (some ⟨b, 0, none⟩), .agg #[.int .i64 y.1, .int .i64 y.2]] w (MakR W0 b x0 x1 x2 x3 pk nl ps y out st o w)

/-- Where makes stands in a right side. -/
def MaI (W0 : World) (b : Nat) (x0 x1 x2 x3 pk : Value) (nl : Nat) (ps : List ProdM) (row : List SymM) (out : List Int) (st : Nat) (o : Value) (W5 : World) (v : Value) (wr : World) : Prop := ∃ (i ai : Nat) (oi : List Int) (si : Nat) (vi : Value), v = .int .i64 (i : Int) ∧ i ≤ row.length ∧ Hid (Tp W0 b x0 x1 x2 x3 pk ai oi si vi wr) ∧ st + 1 ≤ si ∧ si ≤ 400 ∧ Hid (∃ r, oi = out ++ r ∧ RowOf nl (Sen nl ps) (row.take i) r) ∧ Hid (TkS b o.ownBlock W5 wr) ∧ Hid (OwS o.ownBlock W5.heap.size vi)
set_option linter.unusedSimpArgs false in
set_option maxRecDepth 100000 in
set_option maxHeartbeats 16000000 in
theorem mak_step (W0 : World) (b : Nat) (x1 x2 : Value) (al ap ak : Option Addr) (nl cl np cp nk ck : Nat) (ps : List ProdM) (pks : List Int) (N : Nat) (hW0 : W0.heap.size = b) (hnl : nl ≤ 64) (hnp : np ≤ 512) (hps : ps.length = np) (hpk : pks.length = nk) (hp : ProdsAt W0 (.slice ap np cp) ps) (hk : IntsR W0 (.slice ak nk ck) pks) (hin : ∀ p ∈ ps, (0 ≤ p.1) ∧ ∀ y ∈ p.2, SymIn ps y)
    (IH : MakC W0 b (.slice al nl cl) x1 x2 (.slice ap np cp) (.slice ak nk ck) nl ps N) : MakC W0 b (.slice al nl cl) x1 x2 (.slice ap np cp) (.slice ak nk ck) nl ps (N + 1) := by
  intro y at_ st out o w hN hst hy hT
  obtain ⟨kd, nm⟩ := y
  dsimp only
  obtain ⟨⟨oa, oc, ho⟩, hB, hO, hKw, hat, hol⟩ := hT
  obtain ⟨n, hn⟩ : ∃ n, out.length = n := ⟨_, rfl⟩
  rw [hn] at ho hol
  subst ho
  have HIH := hide1 IH
  have HIN := hide1 hin
  have HW0 := hide1 hW0
  have HPS := hide1 hps
  have HPK := hide1 hpk
  have HP := hide1 hp
  have HKK := hide1 hk
  have HY := hide1 hy
  have HNO := hide1 hn
  have HKw := hide1 hKw
  have HX := hide1 (XBox.new w kd nm)
  have HKa : Hid (Kept w (w.alloc (.cells #[.int .i64 kd, .int .i64 nm] 45))) := (Kept.refl w).alloc _ _
  have HB1 := hide1 (hB.keep HKa.out)
  have HO1 := hide1 (hO.keep HKa.out)
  have hbx : b < w.heap.size := hB.lt
  have HO0 := hide1 hO
  clear IH hin hW0 hps hpk hp hk hy hn hKw hB hO
  go_enter Tryd.func12, Tryd.ntmps12
  go_upto_region 1 with fail
  obtain ⟨W1, hW1⟩ : ∃ W1, w.alloc (.cells #[.int .i64 kd, .int .i64 nm] 45) = W1 := ⟨_, rfl⟩
  rw [hW1] at HX HKa HB1 HO1 ⊢
  clear hW1
  obtain ⟨xb, hxb⟩ : ∃ xb, w.heap.size = xb := ⟨_, rfl⟩
  rw [hxb] at HX hbx ⊢
  have HXB := hide1 hxb
  clear hxb
  obtain ⟨c0, c1, c2, c3, c4, c5, c6, c7⟩ := HB1.out.cells
  have z7 := HB1.out.free 7
  have gst : (st : Int) ≤ 400 := by omega
  go_upto_region 2 with fail
  clear c0 c1 c2 c3 c4 c5 c6 c7 z7
  have HB2 := hide1 (HB1.out.set7 ((st : Int) + 1))
  have HX2 : Hid (XBox (W1.setCell ⟨b, 7, none⟩ (.int .i64 ((st : Int) + 1))) xb kd nm) := hide1 ((heap_set_ne (by omega)).trans HX.out)
  have HO2 : Hid (IntsO (W1.setCell ⟨b, 7, none⟩ (.int .i64 ((st : Int) + 1))) (b + 1) (.slice oa n oc) out) := hide1 (owns_same HO1.out (fun d hd => heap_set_ne (by have := (HO1.out.lt d hd).1; omega)))
  have HK2 : Hid (Kept W0 (W1.setCell ⟨b, 7, none⟩ (.int .i64 ((st : Int) + 1)))) := hide1 (keepB (gtrans HKw.out HKa.out) (by have := HW0.out; omega))
  have HT2 : Hid (TkS b (Value.slice oa n oc).ownBlock w (W1.setCell ⟨b, 7, none⟩ (.int .i64 ((st : Int) + 1)))) := hide1 ((TkS.of_kept HKa.out).and (TkS.of_but (setCell_but _ _ _ _)))
  generalize W1.setCell ⟨b, 7, none⟩ (.int .i64 ((st : Int) + 1)) = W2 at HB2 HX2 HO2 HK2 HT2 ⊢
  clear HX HKa HB1 HO1
  obtain ⟨c0, c1, c2, c3, c4, c5, c6, c7⟩ := HB2.out.cells
  obtain ⟨d0, d1⟩ := HX2.out.cells
  have HNE : Hid (some xb ≠ (Value.slice oa n oc).ownBlock) := hide1 (fun e => by have h := (HO0.out.lt xb e.symm).2; have := HXB.out; omega)
  by_cases h400 : (400 : Int) < (st : Int) + 1
  · go_wp2_with fail
    go_ret
    refine ⟨false, at_, out, st + 1, .slice oa n oc, rfl, ⟨⟨_, _, by rw [HNO.out]⟩, HB2.out, HO2.out, HK2.out, by omega, by rw [HNO.out]; omega⟩, by omega, by omega, (fun h => by cases h), HT2.out, .inl rfl⟩
  · by_cases h1 : kd = 1
    · subst h1
      have HSR : Hid (SymR nl ps (1, nm) [nm]) := hide1 (by
        refine .inr ⟨by show ¬ (1 : Int) = 3; decide, ?_⟩
        have h0 : 0 ≤ nm := by
          rcases HY.out with h | h | h
          · exact h.2
          · exact absurd h (by show ¬ (1 : Int) = 2; decide)
          · exact absurd h.1 (by show ¬ (1 : Int) = 3; decide)
        show [nm] = [((termN nl (1, nm) : Nat) : Int)]
        have e : termN nl (1, nm) = nm.toNat := rfl
        rw [e, Int.toNat_of_nonneg h0])
      go_upto_region 5 with fail
      clear c0 c1 c2 c3 c4 c5 c6 c7 d0 d1
      refine wp_region_held_drew (S := fun X => XBox X xb 1 nm) (by kernel_rfl) HX2.out (fun hHeld => ?_)
      refine wpAnyH_take (i := 0) (v := .pointer (some ⟨b, 0, none⟩)) rfl (by kernel_rfl) (by kernel_rfl) (by kernel_rfl) (fun _ _ _ h => h) (Or.inl ⟨by rfl, fun w' hSw => ?_⟩) (by with_reducible assumption) ?_
      · clear hSw
        go_simp
      try simp only [Act.put, List.setIfInBounds_toArray, List.set_cons_zero, List.set_cons_succ]
      refine wpAnyH_take (i := 1) (v := .pointer (some ⟨b, 0, none⟩)) rfl (by kernel_rfl) (by kernel_rfl) (by kernel_rfl) (fun _ _ _ h => h) (Or.inl ⟨by rfl, fun w' hSw => ?_⟩) (by with_reducible assumption) ?_
      · clear hSw
        go_simp
      try simp only [Act.put, List.setIfInBounds_toArray, List.set_cons_zero, List.set_cons_succ]
      refine wpAnyH_take (i := 2) (v := .pointer (some ⟨b, 0, none⟩)) rfl (by kernel_rfl) (by kernel_rfl) (by kernel_rfl) (fun _ _ _ h => h) (Or.inl ⟨by rfl, fun w' hSw => ?_⟩) (by with_reducible assumption) ?_
      · clear hSw
        go_simp
      try simp only [Act.put, List.setIfInBounds_toArray, List.set_cons_zero, List.set_cons_succ]
      refine wpAnyH_take (i := 3) (v := .pointer (some ⟨b, 6, none⟩)) rfl (by kernel_rfl) (by kernel_rfl) (by kernel_rfl) (fun _ _ _ h => h) (Or.inl ⟨by rfl, fun w' hSw => ?_⟩) (by with_reducible assumption) ?_
      · clear hSw
        go_simp
      try simp only [Act.put, List.setIfInBounds_toArray, List.set_cons_zero, List.set_cons_succ]
      refine wpAnyH_take (i := 5) (v := .pointer (some ⟨xb, 1, none⟩)) rfl (by kernel_rfl) (by kernel_rfl) (by kernel_rfl) (fun _ _ _ h => h) (Or.inl ⟨by rfl, fun w' hSw => ?_⟩) (by with_reducible assumption) ?_
      · clear hSw
        go_simp
      try simp only [Act.put, List.setIfInBounds_toArray, List.set_cons_zero, List.set_cons_succ]
      refine wpAnyH_take (i := 6) (v := .int .i64 nm) rfl (by kernel_rfl) (by kernel_rfl) (by kernel_rfl) (fun _ _ _ h => h) (Or.inl ⟨by rfl, fun w' hSw => ?_⟩) (by with_reducible assumption) ?_
      · have s0 := (XBox.cells hSw).2
        clear hSw
        go_simp
      try simp only [Act.put, List.setIfInBounds_toArray, List.set_cons_zero, List.set_cons_succ]
      have HKX : Hid (Kept W2 (W2.alloc (.cells #[.int .i64 nm] 3)).drew) := hide1 (gtrans ((Kept.refl W2).alloc _ _) (drew_kept _))
      refine wpAnyH_ready (rs := [4, 7]) (by kernel_rfl) (by simp) ?_
      refine AllReadyH.cons (i := 4) rfl (fun K hK => ?_) (AllReadyH.cons (i := 7) rfl (fun K hK => ?_) AllReadyH.nil)
      · have s0 : W2.drew.cell? ⟨b, 6, none⟩ = some (.slice oa n oc) := (TpB.keep HB2.out (drew_kept W2)).cells.2.2.2.2.2.2.1
        go_simp
        clear s0
        refine hK.out _ _ hHeld (fun hHeld2 => ?_)
        clear hK K hHeld
        have hHeld := hHeld2
        clear hHeld2
        try simp only [Act.put, List.setIfInBounds_toArray, List.set_cons_zero, List.set_cons_succ]
        refine wpAnyH_ready (rs := [7]) (by kernel_rfl) (by simp) ?_
        refine AllReadyH.cons (i := 7) rfl (fun K hK => ?_) AllReadyH.nil
        go_simp
        refine hK.out _ _ (HX2.out.keep HKX.out) (fun hHeld2 => ?_)
        clear hK K hHeld
        have hHeld := hHeld2
        clear hHeld2
        try simp only [Act.put, List.setIfInBounds_toArray, List.set_cons_zero, List.set_cons_succ]
        refine wpAnyH_ready (rs := [8]) (by kernel_rfl) (by simp) ?_
        refine AllReadyH.cons (i := 8) rfl (fun K hK => ?_) AllReadyH.nil
        refine step_intS rfl _ _ rfl (W2.alloc (.cells #[.int .i64 nm] 3)).drew (b + 1) (.slice oa n oc) out n HNO.out rfl (HO2.out.keep HKX.out) W2.heap.size nm rfl (heap_alloc_new W2 _) (by omega) (Nat.le_trans (TpB.lt HB2.out) HKX.out.size) ?_
        intro g9 c9 w9 ho9 hg9 hor9
        obtain ⟨hB9, hT9, hS9, hW9⟩ := mak_put (st := st + 1) HW0.out HB2.out HO2.out HNO.out HK2.out (by omega) (by omega) HKX.out hg9 ho9 hor9
        have HX9 : Hid (XBox w9 xb _ _) := hide1 ((hg9.block xb (Nat.lt_of_lt_of_le HX2.out.lt HKX.out.size) HNE.out).trans (HX2.out.keep HKX.out))
        have HB9 := hide1 hB9
        have HT9 := hide1 hT9
        have HS9 := hide1 hS9
        have HW9 := hide1 hW9
        clear ho9 hg9 hor9 hB9 hT9 hS9 hW9
        refine hK.out _ _ HX9.out (fun hHeld2 => ?_)
        clear hK K hHeld
        have hHeld := hHeld2
        clear hHeld2
        try simp only [Act.put, List.setIfInBounds_toArray, List.set_cons_zero, List.set_cons_succ]
        refine wpAnyH_take (i := 9) (v := .pointer (some ⟨b, 0, none⟩)) rfl (by kernel_rfl) (by kernel_rfl) (by kernel_rfl) (fun _ _ _ h => h) (Or.inl ⟨by rfl, fun w' hSw => ?_⟩) (by with_reducible assumption) ?_
        · clear hSw
          go_simp
        try simp only [Act.put, List.setIfInBounds_toArray, List.set_cons_zero, List.set_cons_succ]
        refine wpAnyH_take (i := 10) (v := .pointer (some ⟨b, 6, none⟩)) rfl (by kernel_rfl) (by kernel_rfl) (by kernel_rfl) (fun _ _ _ h => h) (Or.inl ⟨by rfl, fun w' hSw => ?_⟩) (by with_reducible assumption) ?_
        · clear hSw
          go_simp
        try simp only [Act.put, List.setIfInBounds_toArray, List.set_cons_zero, List.set_cons_succ]
        refine wpAnyH_ready (rs := [11]) (by kernel_rfl) (by simp) ?_
        refine AllReadyH.cons (i := 11) rfl (fun K hK => ?_) AllReadyH.nil
        have s0 := HB9.out.cells.2.2.2.2.2.2.1
        have z0 := HB9.out.free 6
        go_simp
        clear s0 z0
        refine hK.out _ _ (show XBox _ _ _ _ from (heap_set_ne (by omega)).trans HX9.out) (fun hHeld2 => ?_)
        clear hK K hHeld
        have hHeld := hHeld2
        clear hHeld2
        try simp only [Act.put, List.setIfInBounds_toArray, List.set_cons_zero, List.set_cons_succ]
        refine wpAnyH_done (by kernel_rfl) ?_ _
        clear hHeld HX9 HB9
        generalize w9.setCell ⟨b, 6, none⟩ (.slice (some ⟨g9, 0, none⟩) (n + 1) c9) = W9 at HT9 HS9 ⊢
        go_wp2_with fail
        go_ret
        exact ⟨true, at_, out ++ [nm], st + 1, _, rfl, HT9.out, by omega, by omega, fun _ => ⟨by omega, [nm], rfl, HSR.out⟩, HT2.out.and HS9.out, OwS.low HW9.out HT2.out.2.2.2.1⟩
      · go_simp
        refine hK.out _ _ (HX2.out.keep HKX.out) (fun hHeld2 => ?_)
        clear hK K hHeld
        have hHeld := hHeld2
        clear hHeld2
        try simp only [Act.put, List.setIfInBounds_toArray, List.set_cons_zero, List.set_cons_succ]
        refine wpAnyH_ready (rs := [4]) (by kernel_rfl) (by simp) ?_
        refine AllReadyH.cons (i := 4) rfl (fun K hK => ?_) AllReadyH.nil
        have s0 : (W2.alloc (.cells #[.int .i64 nm] 3)).cell? ⟨b, 6, none⟩ = some (.slice oa n oc) := (TpB.keep HB2.out ((Kept.refl W2).alloc _ _)).cells.2.2.2.2.2.2.1
        go_simp
        clear s0
        refine hK.out _ _ hHeld (fun hHeld2 => ?_)
        clear hK K hHeld
        have hHeld := hHeld2
        clear hHeld2
        try simp only [Act.put, List.setIfInBounds_toArray, List.set_cons_zero, List.set_cons_succ]
        refine wpAnyH_ready (rs := [8]) (by kernel_rfl) (by simp) ?_
        refine AllReadyH.cons (i := 8) rfl (fun K hK => ?_) AllReadyH.nil
        refine step_intS rfl _ _ rfl (W2.alloc (.cells #[.int .i64 nm] 3)).drew (b + 1) (.slice oa n oc) out n HNO.out rfl (HO2.out.keep HKX.out) W2.heap.size nm rfl (heap_alloc_new W2 _) (by omega) (Nat.le_trans (TpB.lt HB2.out) HKX.out.size) ?_
        intro g9 c9 w9 ho9 hg9 hor9
        obtain ⟨hB9, hT9, hS9, hW9⟩ := mak_put (st := st + 1) HW0.out HB2.out HO2.out HNO.out HK2.out (by omega) (by omega) HKX.out hg9 ho9 hor9
        have HX9 : Hid (XBox w9 xb _ _) := hide1 ((hg9.block xb (Nat.lt_of_lt_of_le HX2.out.lt HKX.out.size) HNE.out).trans (HX2.out.keep HKX.out))
        have HB9 := hide1 hB9
        have HT9 := hide1 hT9
        have HS9 := hide1 hS9
        have HW9 := hide1 hW9
        clear ho9 hg9 hor9 hB9 hT9 hS9 hW9
        refine hK.out _ _ HX9.out (fun hHeld2 => ?_)
        clear hK K hHeld
        have hHeld := hHeld2
        clear hHeld2
        try simp only [Act.put, List.setIfInBounds_toArray, List.set_cons_zero, List.set_cons_succ]
        refine wpAnyH_take (i := 9) (v := .pointer (some ⟨b, 0, none⟩)) rfl (by kernel_rfl) (by kernel_rfl) (by kernel_rfl) (fun _ _ _ h => h) (Or.inl ⟨by rfl, fun w' hSw => ?_⟩) (by with_reducible assumption) ?_
        · clear hSw
          go_simp
        try simp only [Act.put, List.setIfInBounds_toArray, List.set_cons_zero, List.set_cons_succ]
        refine wpAnyH_take (i := 10) (v := .pointer (some ⟨b, 6, none⟩)) rfl (by kernel_rfl) (by kernel_rfl) (by kernel_rfl) (fun _ _ _ h => h) (Or.inl ⟨by rfl, fun w' hSw => ?_⟩) (by with_reducible assumption) ?_
        · clear hSw
          go_simp
        try simp only [Act.put, List.setIfInBounds_toArray, List.set_cons_zero, List.set_cons_succ]
        refine wpAnyH_ready (rs := [11]) (by kernel_rfl) (by simp) ?_
        refine AllReadyH.cons (i := 11) rfl (fun K hK => ?_) AllReadyH.nil
        have s0 := HB9.out.cells.2.2.2.2.2.2.1
        have z0 := HB9.out.free 6
        go_simp
        clear s0 z0
        refine hK.out _ _ (show XBox _ _ _ _ from (heap_set_ne (by omega)).trans HX9.out) (fun hHeld2 => ?_)
        clear hK K hHeld
        have hHeld := hHeld2
        clear hHeld2
        try simp only [Act.put, List.setIfInBounds_toArray, List.set_cons_zero, List.set_cons_succ]
        refine wpAnyH_done (by kernel_rfl) ?_ _
        clear hHeld HX9 HB9
        generalize w9.setCell ⟨b, 6, none⟩ (.slice (some ⟨g9, 0, none⟩) (n + 1) c9) = W9 at HT9 HS9 ⊢
        go_wp2_with fail
        go_ret
        exact ⟨true, at_, out ++ [nm], st + 1, _, rfl, HT9.out, by omega, by omega, fun _ => ⟨by omega, [nm], rfl, HSR.out⟩, HT2.out.and HS9.out, OwS.low HW9.out HT2.out.2.2.2.1⟩
    · have hb1 : (kd == 1) = false := by simpa using h1
      by_cases h2 : kd = 2
      · subst h2
        have HSR : Hid (SymR nl ps (2, nm) [(nl : Int)]) := hide1 (.inr ⟨by show ¬ (2 : Int) = 3; decide, rfl⟩)
        have gnl : (nl : Int) ≤ 64 := by omega
        go_upto_region 8 with fail
        clear c0 c1 c2 c3 c4 c5 c6 c7 d0 d1
        refine wp_region_held_drew (S := fun X => X.cell? ⟨b, 0, none⟩ = some (.slice al nl cl)) (by kernel_rfl) HB2.out.cells.1 (fun hHeld => ?_)
        refine wpAnyH_take (i := 0) (v := .pointer (some ⟨b, 0, none⟩)) rfl (by kernel_rfl) (by kernel_rfl) (by kernel_rfl) (fun _ _ _ h => h) (Or.inl ⟨by rfl, fun w' hSw => ?_⟩) (by with_reducible assumption) ?_
        · clear hSw
          go_simp
        try simp only [Act.put, List.setIfInBounds_toArray, List.set_cons_zero, List.set_cons_succ]
        refine wpAnyH_take (i := 1) (v := .pointer (some ⟨b, 0, none⟩)) rfl (by kernel_rfl) (by kernel_rfl) (by kernel_rfl) (fun _ _ _ h => h) (Or.inl ⟨by rfl, fun w' hSw => ?_⟩) (by with_reducible assumption) ?_
        · clear hSw
          go_simp
        try simp only [Act.put, List.setIfInBounds_toArray, List.set_cons_zero, List.set_cons_succ]
        refine wpAnyH_take (i := 2) (v := .pointer (some ⟨b, 0, none⟩)) rfl (by kernel_rfl) (by kernel_rfl) (by kernel_rfl) (fun _ _ _ h => h) (Or.inl ⟨by rfl, fun w' hSw => ?_⟩) (by with_reducible assumption) ?_
        · clear hSw
          go_simp
        try simp only [Act.put, List.setIfInBounds_toArray, List.set_cons_zero, List.set_cons_succ]
        refine wpAnyH_take (i := 3) (v := .pointer (some ⟨b, 6, none⟩)) rfl (by kernel_rfl) (by kernel_rfl) (by kernel_rfl) (fun _ _ _ h => h) (Or.inl ⟨by rfl, fun w' hSw => ?_⟩) (by with_reducible assumption) ?_
        · clear hSw
          go_simp
        try simp only [Act.put, List.setIfInBounds_toArray, List.set_cons_zero, List.set_cons_succ]
        refine wpAnyH_take (i := 5) (v := .pointer (some ⟨b, 0, none⟩)) rfl (by kernel_rfl) (by kernel_rfl) (by kernel_rfl) (fun _ _ _ h => h) (Or.inl ⟨by rfl, fun w' hSw => ?_⟩) (by with_reducible assumption) ?_
        · clear hSw
          go_simp
        try simp only [Act.put, List.setIfInBounds_toArray, List.set_cons_zero, List.set_cons_succ]
        refine wpAnyH_take (i := 6) (v := .pointer (some ⟨b, 0, none⟩)) rfl (by kernel_rfl) (by kernel_rfl) (by kernel_rfl) (fun _ _ _ h => h) (Or.inl ⟨by rfl, fun w' hSw => ?_⟩) (by with_reducible assumption) ?_
        · clear hSw
          go_simp
        try simp only [Act.put, List.setIfInBounds_toArray, List.set_cons_zero, List.set_cons_succ]
        refine wpAnyH_take (i := 7) (v := .pointer (some ⟨b, 0, none⟩)) rfl (by kernel_rfl) (by kernel_rfl) (by kernel_rfl) (fun _ _ _ h => h) (Or.inl ⟨by rfl, fun w' hSw => ?_⟩) (by with_reducible assumption) ?_
        · clear hSw
          go_simp
        try simp only [Act.put, List.setIfInBounds_toArray, List.set_cons_zero, List.set_cons_succ]
        refine wpAnyH_take (i := 8) (v := .pointer (some ⟨b, 0, none⟩)) rfl (by kernel_rfl) (by kernel_rfl) (by kernel_rfl) (fun _ _ _ h => h) (Or.inl ⟨by rfl, fun w' hSw => ?_⟩) (by with_reducible assumption) ?_
        · clear hSw
          go_simp
        try simp only [Act.put, List.setIfInBounds_toArray, List.set_cons_zero, List.set_cons_succ]
        refine wpAnyH_take (i := 9) (v := .slice al nl cl) rfl (by kernel_rfl) (by kernel_rfl) (by kernel_rfl) (fun _ _ _ h => h) (Or.inl ⟨by rfl, fun w' hSw => ?_⟩) (by with_reducible assumption) ?_
        · have s0 := hSw
          clear hSw
          go_simp
        try simp only [Act.put, List.setIfInBounds_toArray, List.set_cons_zero, List.set_cons_succ]
        refine wpAnyH_take (i := 10) (v := .int .i64 (nl : Int)) rfl (by kernel_rfl) (by kernel_rfl) (by kernel_rfl) (fun _ _ _ h => h) (Or.inl ⟨by rfl, fun w' hSw => ?_⟩) (by with_reducible assumption) ?_
        · clear hSw
          go_simp
        try simp only [Act.put, List.setIfInBounds_toArray, List.set_cons_zero, List.set_cons_succ]
        have HKX : Hid (Kept W2 (W2.alloc (.cells #[.int .i64 (nl : Int)] 3)).drew) := hide1 (gtrans ((Kept.refl W2).alloc _ _) (drew_kept _))
        refine wpAnyH_ready (rs := [4, 11]) (by kernel_rfl) (by simp) ?_
        refine AllReadyH.cons (i := 4) rfl (fun K hK => ?_) (AllReadyH.cons (i := 11) rfl (fun K hK => ?_) AllReadyH.nil)
        · have s0 : W2.drew.cell? ⟨b, 6, none⟩ = some (.slice oa n oc) := (TpB.keep HB2.out (drew_kept W2)).cells.2.2.2.2.2.2.1
          go_simp
          clear s0
          refine hK.out _ _ hHeld (fun hHeld2 => ?_)
          clear hK K hHeld
          have hHeld := hHeld2
          clear hHeld2
          try simp only [Act.put, List.setIfInBounds_toArray, List.set_cons_zero, List.set_cons_succ]
          refine wpAnyH_ready (rs := [11]) (by kernel_rfl) (by simp) ?_
          refine AllReadyH.cons (i := 11) rfl (fun K hK => ?_) AllReadyH.nil
          go_simp
          refine hK.out _ _ (HB2.out.keep HKX.out).cells.1 (fun hHeld2 => ?_)
          clear hK K hHeld
          have hHeld := hHeld2
          clear hHeld2
          try simp only [Act.put, List.setIfInBounds_toArray, List.set_cons_zero, List.set_cons_succ]
          refine wpAnyH_ready (rs := [12]) (by kernel_rfl) (by simp) ?_
          refine AllReadyH.cons (i := 12) rfl (fun K hK => ?_) AllReadyH.nil
          refine step_intS rfl _ _ rfl (W2.alloc (.cells #[.int .i64 (nl : Int)] 3)).drew (b + 1) (.slice oa n oc) out n HNO.out rfl (HO2.out.keep HKX.out) W2.heap.size (nl : Int) rfl (heap_alloc_new W2 _) (by omega) (Nat.le_trans (TpB.lt HB2.out) HKX.out.size) ?_
          intro g9 c9 w9 ho9 hg9 hor9
          obtain ⟨hB9, hT9, hS9, hW9⟩ := mak_put (st := st + 1) HW0.out HB2.out HO2.out HNO.out HK2.out (by omega) (by omega) HKX.out hg9 ho9 hor9
          have HX9 : Hid (XBox w9 xb _ _) := hide1 ((hg9.block xb (Nat.lt_of_lt_of_le HX2.out.lt HKX.out.size) HNE.out).trans (HX2.out.keep HKX.out))
          have HB9 := hide1 hB9
          have HT9 := hide1 hT9
          have HS9 := hide1 hS9
          have HW9 := hide1 hW9
          clear ho9 hg9 hor9 hB9 hT9 hS9 hW9
          refine hK.out _ _ HB9.out.cells.1 (fun hHeld2 => ?_)
          clear hK K hHeld
          have hHeld := hHeld2
          clear hHeld2
          try simp only [Act.put, List.setIfInBounds_toArray, List.set_cons_zero, List.set_cons_succ]
          refine wpAnyH_take (i := 13) (v := .pointer (some ⟨b, 0, none⟩)) rfl (by kernel_rfl) (by kernel_rfl) (by kernel_rfl) (fun _ _ _ h => h) (Or.inl ⟨by rfl, fun w' hSw => ?_⟩) (by with_reducible assumption) ?_
          · clear hSw
            go_simp
          try simp only [Act.put, List.setIfInBounds_toArray, List.set_cons_zero, List.set_cons_succ]
          refine wpAnyH_take (i := 14) (v := .pointer (some ⟨b, 6, none⟩)) rfl (by kernel_rfl) (by kernel_rfl) (by kernel_rfl) (fun _ _ _ h => h) (Or.inl ⟨by rfl, fun w' hSw => ?_⟩) (by with_reducible assumption) ?_
          · clear hSw
            go_simp
          try simp only [Act.put, List.setIfInBounds_toArray, List.set_cons_zero, List.set_cons_succ]
          refine wpAnyH_ready (rs := [15]) (by kernel_rfl) (by simp) ?_
          refine AllReadyH.cons (i := 15) rfl (fun K hK => ?_) AllReadyH.nil
          have s0 := HB9.out.cells.2.2.2.2.2.2.1
          have z0 := HB9.out.free 6
          go_simp
          clear s0 z0
          refine hK.out _ _ (HB9.out.set6 _).cells.1 (fun hHeld2 => ?_)
          clear hK K hHeld
          have hHeld := hHeld2
          clear hHeld2
          try simp only [Act.put, List.setIfInBounds_toArray, List.set_cons_zero, List.set_cons_succ]
          refine wpAnyH_done (by kernel_rfl) ?_ _
          clear hHeld HX9 HB9
          generalize w9.setCell ⟨b, 6, none⟩ (.slice (some ⟨g9, 0, none⟩) (n + 1) c9) = W9 at HT9 HS9 ⊢
          go_wp2_with fail
          go_ret
          exact ⟨true, at_, out ++ [(nl : Int)], st + 1, _, rfl, HT9.out, by omega, by omega, fun _ => ⟨by omega, [(nl : Int)], rfl, HSR.out⟩, HT2.out.and HS9.out, OwS.low HW9.out HT2.out.2.2.2.1⟩
        · go_simp
          refine hK.out _ _ (HB2.out.keep HKX.out).cells.1 (fun hHeld2 => ?_)
          clear hK K hHeld
          have hHeld := hHeld2
          clear hHeld2
          try simp only [Act.put, List.setIfInBounds_toArray, List.set_cons_zero, List.set_cons_succ]
          refine wpAnyH_ready (rs := [4]) (by kernel_rfl) (by simp) ?_
          refine AllReadyH.cons (i := 4) rfl (fun K hK => ?_) AllReadyH.nil
          have s0 : (W2.alloc (.cells #[.int .i64 (nl : Int)] 3)).cell? ⟨b, 6, none⟩ = some (.slice oa n oc) := (TpB.keep HB2.out ((Kept.refl W2).alloc _ _)).cells.2.2.2.2.2.2.1
          go_simp
          clear s0
          refine hK.out _ _ hHeld (fun hHeld2 => ?_)
          clear hK K hHeld
          have hHeld := hHeld2
          clear hHeld2
          try simp only [Act.put, List.setIfInBounds_toArray, List.set_cons_zero, List.set_cons_succ]
          refine wpAnyH_ready (rs := [12]) (by kernel_rfl) (by simp) ?_
          refine AllReadyH.cons (i := 12) rfl (fun K hK => ?_) AllReadyH.nil
          refine step_intS rfl _ _ rfl (W2.alloc (.cells #[.int .i64 (nl : Int)] 3)).drew (b + 1) (.slice oa n oc) out n HNO.out rfl (HO2.out.keep HKX.out) W2.heap.size (nl : Int) rfl (heap_alloc_new W2 _) (by omega) (Nat.le_trans (TpB.lt HB2.out) HKX.out.size) ?_
          intro g9 c9 w9 ho9 hg9 hor9
          obtain ⟨hB9, hT9, hS9, hW9⟩ := mak_put (st := st + 1) HW0.out HB2.out HO2.out HNO.out HK2.out (by omega) (by omega) HKX.out hg9 ho9 hor9
          have HX9 : Hid (XBox w9 xb _ _) := hide1 ((hg9.block xb (Nat.lt_of_lt_of_le HX2.out.lt HKX.out.size) HNE.out).trans (HX2.out.keep HKX.out))
          have HB9 := hide1 hB9
          have HT9 := hide1 hT9
          have HS9 := hide1 hS9
          have HW9 := hide1 hW9
          clear ho9 hg9 hor9 hB9 hT9 hS9 hW9
          refine hK.out _ _ HB9.out.cells.1 (fun hHeld2 => ?_)
          clear hK K hHeld
          have hHeld := hHeld2
          clear hHeld2
          try simp only [Act.put, List.setIfInBounds_toArray, List.set_cons_zero, List.set_cons_succ]
          refine wpAnyH_take (i := 13) (v := .pointer (some ⟨b, 0, none⟩)) rfl (by kernel_rfl) (by kernel_rfl) (by kernel_rfl) (fun _ _ _ h => h) (Or.inl ⟨by rfl, fun w' hSw => ?_⟩) (by with_reducible assumption) ?_
          · clear hSw
            go_simp
          try simp only [Act.put, List.setIfInBounds_toArray, List.set_cons_zero, List.set_cons_succ]
          refine wpAnyH_take (i := 14) (v := .pointer (some ⟨b, 6, none⟩)) rfl (by kernel_rfl) (by kernel_rfl) (by kernel_rfl) (fun _ _ _ h => h) (Or.inl ⟨by rfl, fun w' hSw => ?_⟩) (by with_reducible assumption) ?_
          · clear hSw
            go_simp
          try simp only [Act.put, List.setIfInBounds_toArray, List.set_cons_zero, List.set_cons_succ]
          refine wpAnyH_ready (rs := [15]) (by kernel_rfl) (by simp) ?_
          refine AllReadyH.cons (i := 15) rfl (fun K hK => ?_) AllReadyH.nil
          have s0 := HB9.out.cells.2.2.2.2.2.2.1
          have z0 := HB9.out.free 6
          go_simp
          clear s0 z0
          refine hK.out _ _ (HB9.out.set6 _).cells.1 (fun hHeld2 => ?_)
          clear hK K hHeld
          have hHeld := hHeld2
          clear hHeld2
          try simp only [Act.put, List.setIfInBounds_toArray, List.set_cons_zero, List.set_cons_succ]
          refine wpAnyH_done (by kernel_rfl) ?_ _
          clear hHeld HX9 HB9
          generalize w9.setCell ⟨b, 6, none⟩ (.slice (some ⟨g9, 0, none⟩) (n + 1) c9) = W9 at HT9 HS9 ⊢
          go_wp2_with fail
          go_ret
          exact ⟨true, at_, out ++ [(nl : Int)], st + 1, _, rfl, HT9.out, by omega, by omega, fun _ => ⟨by omega, [(nl : Int)], rfl, HSR.out⟩, HT2.out.and HS9.out, OwS.low HW9.out HT2.out.2.2.2.1⟩
      · have hb2 : (kd == 2) = false := by simpa using h2
        have h3 : kd = 3 := by
          rcases HY.out with h | h | h
          · exact absurd h.1 h1
          · exact absurd h h2
          · exact h.1
        have HY3 : Hid (0 ≤ nm ∧ ∃ p ∈ ps, p.1 = nm) := hide1 (by
          rcases HY.out with h | h | h
          · exact absurd h.1 h1
          · exact absurd h h2
          · exact h.2)
        have HH3 := hide1 h3
        clear h1 h2 h3 HY
        go_upto_region 10 with fail
        clear c0 c1 c2 c3 c4 c5 c6 c7 d0 d1
        refine wp_region_held_drew (S := fun X => Kept W2 X) (by kernel_rfl) (Kept.refl W2) (fun hHeld => ?_)
        refine wpAnyH_take (i := 0) (v := .pointer (some ⟨b, 0, none⟩)) rfl (by kernel_rfl) (by kernel_rfl) (by kernel_rfl) (fun _ _ _ h => h) (Or.inl ⟨by rfl, fun w' hSw => ?_⟩) (by with_reducible assumption) ?_
        · clear hSw
          go_simp
        try simp only [Act.put, List.setIfInBounds_toArray, List.set_cons_zero, List.set_cons_succ]
        refine wpAnyH_take (i := 1) (v := .pointer (some ⟨b, 0, none⟩)) rfl (by kernel_rfl) (by kernel_rfl) (by kernel_rfl) (fun _ _ _ h => h) (Or.inl ⟨by rfl, fun w' hSw => ?_⟩) (by with_reducible assumption) ?_
        · clear hSw
          go_simp
        try simp only [Act.put, List.setIfInBounds_toArray, List.set_cons_zero, List.set_cons_succ]
        refine wpAnyH_take (i := 2) (v := .pointer (some ⟨b, 0, none⟩)) rfl (by kernel_rfl) (by kernel_rfl) (by kernel_rfl) (fun _ _ _ h => h) (Or.inl ⟨by rfl, fun w' hSw => ?_⟩) (by with_reducible assumption) ?_
        · clear hSw
          go_simp
        try simp only [Act.put, List.setIfInBounds_toArray, List.set_cons_zero, List.set_cons_succ]
        refine wpAnyH_take (i := 3) (v := .agg #[.slice al nl cl, x1, x2, .slice ap np cp]) rfl (by kernel_rfl) (by kernel_rfl) (by kernel_rfl) (fun _ _ _ h => h) (Or.inl ⟨by rfl, fun w' hSw => ?_⟩) (by with_reducible assumption) ?_
        · obtain ⟨s0, s1, s2, s3, _⟩ := (HB2.out.keep hSw).cells
          clear hSw
          go_simp
        try simp only [Act.put, List.setIfInBounds_toArray, List.set_cons_zero, List.set_cons_succ]
        refine wpAnyH_take (i := 4) (v := .pointer (some ⟨xb, 1, none⟩)) rfl (by kernel_rfl) (by kernel_rfl) (by kernel_rfl) (fun _ _ _ h => h) (Or.inl ⟨by rfl, fun w' hSw => ?_⟩) (by with_reducible assumption) ?_
        · clear hSw
          go_simp
        try simp only [Act.put, List.setIfInBounds_toArray, List.set_cons_zero, List.set_cons_succ]
        refine wpAnyH_take (i := 5) (v := .int .i64 nm) rfl (by kernel_rfl) (by kernel_rfl) (by kernel_rfl) (fun _ _ _ h => h) (Or.inl ⟨by rfl, fun w' hSw => ?_⟩) (by with_reducible assumption) ?_
        · have s0 := (HX2.out.keep hSw).cells.2
          clear hSw
          go_simp
        try simp only [Act.put, List.setIfInBounds_toArray, List.set_cons_zero, List.set_cons_succ]
        refine wpAnyH_ready (rs := [6]) (by kernel_rfl) (by simp) ?_
        refine AllReadyH.cons (i := 6) rfl (fun K hK => ?_) AllReadyH.nil
        go_simp
        go_wp2_with (go_at_call 38; refine (lOwn_is ps (.slice al nl cl) x1 x2 ap np cp nm _ HPS.out hnp (HP.out.keep (gtrans HK2.out (drew_kept W2)))).mono ?_; rintro e w3 ⟨⟨v, rfl, hv⟩, hk3⟩; have HV := hide1 hv; have HK3 := hide1 (gtrans (drew_kept W2) hk3); clear hv hk3)
        refine hK.out _ _ HK3.out (fun hHeld2 => ?_)
        clear hK K hHeld
        have hHeld := hHeld2
        clear hHeld2
        try simp only [Act.put, List.setIfInBounds_toArray, List.set_cons_zero, List.set_cons_succ]
        refine wpAnyH_take (i := 7) (v := v) rfl (by kernel_rfl) (by kernel_rfl) (by kernel_rfl) (fun _ _ _ h => h) (Or.inl ⟨by rfl, fun w' hSw => ?_⟩) (by with_reducible assumption) ?_
        · clear hSw
          go_simp
        try simp only [Act.put, List.setIfInBounds_toArray, List.set_cons_zero, List.set_cons_succ]
        refine wpAnyH_done (by kernel_rfl) ?_ _
        clear hHeld
        obtain ⟨va, vc, hv⟩ := HV.out.form
        subst hv
        obtain ⟨m, hm⟩ : ∃ m, (natsI (ownTo ps nm ps.length)).length = m := ⟨_, rfl⟩
        rw [hm] at HV ⊢
        have HMM := hide1 hm
        have hm1 : 0 < m := by
          obtain ⟨p, hp, he⟩ := HY3.out.2
          have h := ownTo_has hp he
          rw [← hm]
          unfold natsI
          rw [List.length_map]
          exact List.length_pos_iff.2 h
        have hm5 : m ≤ 512 := by
          rw [← hm]
          unfold natsI
          rw [List.length_map]
          have := ownTo_len ps nm ps.length
          have := HPS.out
          omega
        have HVR := hide1 (HV.out.read (by rw [HMM.out]; omega))
        clear hm
        have gm : (m : Int) ≤ 512 := by omega
        have HB3 := hide1 (HB2.out.keep HK3.out)
        have HO3 := hide1 (HO2.out.keep HK3.out)
        have HK03 := hide1 (gtrans HK2.out HK3.out)
        have HT3 := hide1 (HT2.out.and (TkS.of_kept HK3.out))
        have HVC : Hid (m ≤ vc) := hide1 (by
          obtain ⟨_, _, q1, hc1, _⟩ := SliceOf.len HVR.out
          simp only [Value.slice.injEq] at q1
          obtain ⟨_, _, rfl⟩ := q1
          rw [HMM.out] at hc1
          exact hc1)
        have HB3L : Hid (b < w3.heap.size) := hide1 HB3.out.lt
        clear HX2
        go_upto_region 11 with fail
        refine wp_region_held_drew (S := fun X => KeptBut b w3 X ∧ X.cell? ⟨b, 3, none⟩ = some (.slice ap np cp)) (by kernel_rfl) ⟨but_refl b w3, HB3.out.cells.2.2.2.1⟩ (fun hHeld => ?_)
        refine wpAnyH_take (i := 0) (v := .pointer (some ⟨b, 0, none⟩)) rfl (by kernel_rfl) (by kernel_rfl) (by kernel_rfl) (fun _ _ _ h => h) (Or.inl ⟨by rfl, fun w' hSw => ?_⟩) (by with_reducible assumption) ?_
        · clear hSw
          go_simp
        try simp only [Act.put, List.setIfInBounds_toArray, List.set_cons_zero, List.set_cons_succ]
        refine wpAnyH_take (i := 1) (v := .pointer (some ⟨b, 0, none⟩)) rfl (by kernel_rfl) (by kernel_rfl) (by kernel_rfl) (fun _ _ _ h => h) (Or.inl ⟨by rfl, fun w' hSw => ?_⟩) (by with_reducible assumption) ?_
        · clear hSw
          go_simp
        try simp only [Act.put, List.setIfInBounds_toArray, List.set_cons_zero, List.set_cons_succ]
        refine wpAnyH_take (i := 2) (v := .pointer (some ⟨b, 0, none⟩)) rfl (by kernel_rfl) (by kernel_rfl) (by kernel_rfl) (fun _ _ _ h => h) (Or.inl ⟨by rfl, fun w' hSw => ?_⟩) (by with_reducible assumption) ?_
        · clear hSw
          go_simp
        try simp only [Act.put, List.setIfInBounds_toArray, List.set_cons_zero, List.set_cons_succ]
        refine wpAnyH_take (i := 3) (v := .pointer (some ⟨b, 3, none⟩)) rfl (by kernel_rfl) (by kernel_rfl) (by kernel_rfl) (fun _ _ _ h => h) (Or.inl ⟨by rfl, fun w' hSw => ?_⟩) (by with_reducible assumption) ?_
        · clear hSw
          go_simp
        try simp only [Act.put, List.setIfInBounds_toArray, List.set_cons_zero, List.set_cons_succ]
        refine wpAnyH_take (i := 4) (v := .slice ap np cp) rfl (by kernel_rfl) (by kernel_rfl) (by kernel_rfl) (fun _ _ _ h => h) (Or.inl ⟨by rfl, fun w' hSw => ?_⟩) (by with_reducible assumption) ?_
        · have s0 := hSw.2
          clear hSw
          go_simp
        try simp only [Act.put, List.setIfInBounds_toArray, List.set_cons_zero, List.set_cons_succ]
        refine wpAnyH_take (i := 5) (v := .slice va m vc) rfl (by kernel_rfl) (by kernel_rfl) (by kernel_rfl) (fun _ _ _ h => h) (Or.inl ⟨by rfl, fun w' hSw => ?_⟩) (by with_reducible assumption) ?_
        · clear hSw
          go_simp
        try simp only [Act.put, List.setIfInBounds_toArray, List.set_cons_zero, List.set_cons_succ]
        refine wpAnyH_take (i := 6) (v := .pointer (some ⟨b, 0, none⟩)) rfl (by kernel_rfl) (by kernel_rfl) (by kernel_rfl) (fun _ _ _ h => h) (Or.inl ⟨by rfl, fun w' hSw => ?_⟩) (by with_reducible assumption) ?_
        · clear hSw
          go_simp
        try simp only [Act.put, List.setIfInBounds_toArray, List.set_cons_zero, List.set_cons_succ]
        refine wpAnyH_take (i := 7) (v := .slice va m vc) rfl (by kernel_rfl) (by kernel_rfl) (by kernel_rfl) (fun _ _ _ h => h) (Or.inl ⟨by rfl, fun w' hSw => ?_⟩) (by with_reducible assumption) ?_
        · clear hSw
          go_simp
        try simp only [Act.put, List.setIfInBounds_toArray, List.set_cons_zero, List.set_cons_succ]
        refine wpAnyH_take (i := 8) (v := .int .i64 (m : Int)) rfl (by kernel_rfl) (by kernel_rfl) (by kernel_rfl) (fun _ _ _ h => h) (Or.inl ⟨by rfl, fun w' hSw => ?_⟩) (by with_reducible assumption) ?_
        · clear hSw
          go_simp
        try simp only [Act.put, List.setIfInBounds_toArray, List.set_cons_zero, List.set_cons_succ]
        refine wpAnyH_ready (rs := [9, 14]) (by kernel_rfl) (by simp) ?_
        refine AllReadyH.cons (i := 9) rfl (fun K hK => ?_) (AllReadyH.cons (i := 14) rfl (fun K hK => ?_) AllReadyH.nil)
        · go_simp
          go_wp2_with (go_at_call 39; refine (pick_is _ b (.slice al nl cl) x1 x2 (.slice ap np cp) (.slice oa n oc) ak nk ck at_ m ((st : Int) + 1) pks (HB3.out.keep (drew_kept w3)) (HKK.out.keep (gtrans HK03.out (drew_kept w3))) HPK.out hm1 hm5 (by omega)).mono ?_; rintro e w4 ⟨r, a4, rfl, hr, ha4, hB4, hk4⟩; have HR := hide1 hr; have HA4 := hide1 ha4; have HB4 := hide1 hB4; have HK4 := hide1 hk4; clear hr ha4 hB4 hk4)
          have HK34 : Hid (KeptBut b w3 w4) := hide1 (((drew_kept w3).but b).trans HK4.out)
          refine hK.out _ _ ⟨HK34.out, HB4.out.cells.2.2.2.1⟩ (fun hHeld2 => ?_)
          clear hK K hHeld
          have hHeld := hHeld2
          clear hHeld2
          try simp only [Act.put, List.setIfInBounds_toArray, List.set_cons_zero, List.set_cons_succ]
          obtain ⟨q, hq⟩ : ∃ q, (ownTo ps nm ps.length)[r]? = some q := ⟨_, List.getElem?_eq_getElem (by have h := HMM.out; unfold natsI at h; rw [List.length_map] at h; have := HR.out; omega)⟩
          obtain ⟨p, hp, hpn⟩ := ownTo_mem (List.mem_of_getElem? hq)
          obtain ⟨vb, vo, ev, k0⟩ := HVR.out.at_ (i := r) (x := (q : Int)) (by unfold natsI; rw [List.getElem?_map, hq]; rfl)
          have hvb : vb ≠ b := by have h := (HV.out.lt vb (by rw [ev]; rfl)).1; have h2 := (drew_kept W2).size; have h3 := HB2.out.lt; omega
          subst ev
          have hqn : q < np := by have h := (List.getElem?_eq_some_iff.1 hp).1; have := HPS.out; omega
          obtain ⟨cb, o2, cs, ea, hcb, hlen, hcell, v', hcs, hrt⟩ := SliceOf.el HP.out hp
          subst ea hcs
          obtain ⟨ra, rc, hv', hrc⟩ := SliceOf.len hrt
          subst hv'
          have hcbb : cb ≠ b := by have := HW0.out; omega
          have HC0 : Hid (w3.cell? ⟨cb, o2 + q * 2, none⟩ = some (.int .i64 p.1)) := hide1 (grown_cell HK03.out (hcell 0 _ rfl))
          have HC1 : Hid (w3.cell? ⟨cb, o2 + q * 2 + 1, none⟩ = some (.slice ra p.2.length rc)) := hide1 (grown_cell HK03.out (hcell 1 _ rfl))
          have HC2 := hide1 k0
          have HRT := hide1 hrt
          have HPP := hide1 hp
          have HPN := hide1 hpn
          have HRC := hide1 hrc
          have gr : (r : Int) < (m : Int) := by have := HR.out; omega
          have grc : (r : Int) < (vc : Int) := by have := HR.out; have := HVC.out; omega
          have gq : (q : Int) < (np : Int) := by omega
          have gqc : (q : Int) < (cp : Int) := by obtain ⟨_, _, q1, hc1, _⟩ := HP.out.len; simp only [Value.slice.injEq] at q1; obtain ⟨_, _, rfl⟩ := q1; have := HPS.out; omega
          clear hcell hlen hrt hp hpn hq k0 hrc
          refine wpAnyH_take (i := 10) (v := .pointer (some ⟨vb, vo + r, none⟩)) rfl (by kernel_rfl) (by kernel_rfl) (by kernel_rfl) (fun _ _ _ h => h) (Or.inl ⟨by rfl, fun w' hSw => ?_⟩) (by with_reducible assumption) ?_
          · clear hSw
            go_simp
          try simp only [Act.put, List.setIfInBounds_toArray, List.set_cons_zero, List.set_cons_succ]
          refine wpAnyH_take (i := 11) (v := .int .i64 (q : Int)) rfl (by kernel_rfl) (by kernel_rfl) (by kernel_rfl) (fun _ _ _ h => h) (Or.inl ⟨by rfl, fun w' hSw => ?_⟩) (by with_reducible assumption) ?_
          · have s0 := kb_cell hSw.1 hvb HC2.out
            clear hSw
            go_simp
          try simp only [Act.put, List.setIfInBounds_toArray, List.set_cons_zero, List.set_cons_succ]
          refine wpAnyH_take (i := 12) (v := .pointer (some ⟨cb, o2 + q * 2, none⟩)) rfl (by kernel_rfl) (by kernel_rfl) (by kernel_rfl) (fun _ _ _ h => h) (Or.inl ⟨by rfl, fun w' hSw => ?_⟩) (by with_reducible assumption) ?_
          · clear hSw
            go_simp
          try simp only [Act.put, List.setIfInBounds_toArray, List.set_cons_zero, List.set_cons_succ]
          refine wpAnyH_take (i := 13) (v := .agg #[.int .i64 p.1, .slice ra p.2.length rc]) rfl (by kernel_rfl) (by kernel_rfl) (by kernel_rfl) (fun _ _ _ h => h) (Or.inl ⟨by rfl, fun w' hSw => ?_⟩) (by with_reducible assumption) ?_
          · have s0 := kb_cell hSw.1 hcbb HC0.out
            have s1 := kb_cell hSw.1 hcbb HC1.out
            clear hSw
            go_simp
          try simp only [Act.put, List.setIfInBounds_toArray, List.set_cons_zero, List.set_cons_succ]
          refine wpAnyH_ready (rs := [14]) (by kernel_rfl) (by simp) ?_
          refine AllReadyH.cons (i := 14) rfl (fun K hK => ?_) AllReadyH.nil
          go_simp
          refine hK.out _ _ ⟨HK34.out.trans (((Kept.refl w4).alloc _ _).but b), (HB4.out.keep ((Kept.refl w4).alloc _ _)).cells.2.2.2.1⟩ (fun hHeld2 => ?_)
          clear hK K hHeld
          have hHeld := hHeld2
          clear hHeld2
          try simp only [Act.put, List.setIfInBounds_toArray, List.set_cons_zero, List.set_cons_succ]
          refine wpAnyH_ready (rs := [15]) (by kernel_rfl) (by simp) ?_
          refine AllReadyH.cons (i := 15) rfl (fun K hK => ?_) AllReadyH.nil
          go_simp
          have HCH := hide1 (cho_one (at_ := at_) (st := st + 1) (p := p) (u := .slice ra p.2.length rc) HB4.out HA4.out HK34.out)
          refine hK.out _ _ ⟨HCH.out.2.1, HCH.out.1.choose_spec.2.cells.2.2.2.1⟩ (fun hHeld2 => ?_)
          clear hK K hHeld
          have hHeld := hHeld2
          clear hHeld2
          try simp only [Act.put, List.setIfInBounds_toArray, List.set_cons_zero, List.set_cons_succ]
          refine wpAnyH_done (by kernel_rfl) ?_ _
          clear hHeld
          generalize w4.alloc (.cells #[.int .i64 p.1, .slice ra p.2.length rc] 37) = W5 at HCH ⊢
          generalize w4.heap.size = pb at HCH ⊢
          obtain ⟨a5, ha5, hB5⟩ := HCH.out.1
          have HB5 := hide1 hB5
          have HA5 := hide1 ha5
          have HK35 := hide1 HCH.out.2.1
          have HPB := hide1 HCH.out.2.2.1
          have HPL := hide1 HCH.out.2.2.2
          clear ha5 hB5 HCH
          obtain ⟨nr, hnr⟩ : ∃ nr, p.2.length = nr := ⟨_, rfl⟩
          rw [hnr] at HPB HRC HRT HC1 ⊢
          have HNR := hide1 hnr
          clear hnr
          have gnr : (nr : Int) ≤ 17592186044416 := by have := HRC.out.2; omega
          have hnrc : nr ≤ rc := HRC.out.1
          have HT5 := hide1 (HT3.out.and (TkS.of_but HK35.out))
          have HO5 := hide1 (HO3.out.but HK35.out (fun d hd => by have := (HO3.out.lt d hd).1; omega))
          have HK05 := hide1 (KeptBut.up HK03.out (by have := HW0.out; omega) HK35.out)
          have HTP : Hid (Tp W0 b (.slice al nl cl) x1 x2 (.slice (some ⟨cb, o2, none⟩) np cp) (.slice ak nk ck) a5 out (st + 1) (.slice oa n oc) W5) := hide1 ⟨⟨_, _, by rw [HNO.out]⟩, HB5.out, HO5.out, HK05.out, by have := HA5.out; omega, by rw [HNO.out]; omega⟩
          have HPN1 : Hid (some pb ≠ (Value.slice oa n oc).ownBlock) := hide1 (fun e => by have h := (HO3.out.lt pb e.symm).2; have := HPL.out; omega)
          have hpb : pb ≠ b := by have := HPL.out; have := HB3L.out; omega
          go_wp2_with fail
          go_loopw [7] (MaI W0 b (.slice al nl cl) x1 x2 (.slice (some ⟨cb, o2, none⟩) np cp) (.slice ak nk ck) nl ps p.2 out st (.slice oa n oc) W5) (fun i _ => nr - (intOf i).toNat)
          case atStart => exact ⟨0, a5, out, st + 1, .slice oa n oc, rfl, Nat.zero_le _, HTP, Nat.le_refl _, by omega, ⟨[], by simp, rfl⟩, TkS.refl _ _ _, .inl rfl⟩
          case round =>
            obtain ⟨i, ai, oi, si, vi, rfl, hi, HTi, hs1, hs4, HRi, HSi, HWi⟩ := hrel
            rw [HNR.out] at hi
            have HPr : Hid (PBox wr pb (.int .i64 p.1) (.slice ra nr rc)) := hide1 ((HSi.out.2.2.2.2 pb HPB.out.lt hpb HPN1.out).trans HPB.out)
            obtain ⟨k0, k1⟩ := HPr.out.cells
            by_cases hlt : (i : Int) < (nr : Int)
            · obtain ⟨y, hy⟩ : ∃ y, p.2[i]? = some y := ⟨_, List.getElem?_eq_getElem (by have := HNR.out; omega)⟩
              obtain ⟨yk, yn⟩ := y
              obtain ⟨rb, ro, cs, ea, _, hlen, hcell, hcs⟩ := SliceOf.el (HRT.out.keep HTi.out.2.2.2.1) hy
              have hcs : cs = [.int .i64 yk, .int .i64 yn] := hcs
              subst ea hcs
              have e0 : wr.cell? ⟨rb, ro + i * 2, none⟩ = some (.int .i64 yk) := hcell 0 _ rfl
              have e1 : wr.cell? ⟨rb, ro + i * 2 + 1, none⟩ = some (.int .i64 yn) := hcell 1 _ rfl
              have gic : (i : Int) < (rc : Int) := by omega
              have HYI := hide1 ((HIN.out p (List.mem_of_getElem? HPP.out)).2 (yk, yn) (List.mem_of_getElem? hy))
              have HYY := hide1 hy
              clear hcell hlen hy
              go_wp2_with fail
              refine (HIH.out (yk, yn) ai si oi vi _ (by omega) hs4 HYI.out HTi.out).mono ?_
              rintro e w6 ⟨r6, a6, o6, s6, v6, rfl, hT6, hs6, hs61, hr6, hS6, hW6⟩
              have HT6 := hide1 hT6
              have HR6 := hide1 hr6
              have HS6 := hide1 (HSi.out.trans HWi.out hS6)
              have HW6 := hide1 (HWi.out.trans hW6 HSi.out.2.2.2.1)
              clear hT6 hr6 hS6 hW6 k0 k1 e0 e1
              cases r6 with
              | false =>
                go_wp2_with fail
                go_ret
                exact ⟨false, a6, o6, s6, v6, rfl, HT6.out, by omega, hs61, (fun h => by cases h), HT5.out.and HS6.out, OwS.low HW6.out HT5.out.2.2.2.1⟩
              | true =>
                have HRN : Hid (s6 ≤ 400 ∧ ∃ r, o6 = out ++ r ∧ RowOf nl (Sen nl ps) (p.2.take (i + 1)) r) := hide1 (by
                  obtain ⟨h1, c, h2, h3⟩ := HR6.out rfl
                  obtain ⟨r0, h4, h5⟩ := HRi.out
                  exact ⟨h1, r0 ++ c, by rw [h2, h4, List.append_assoc], h5.more HYY.out h3⟩)
                go_wp2_with fail
                go_roundw
                case rel => exact ⟨i + 1, a6, o6, s6, v6, by go_num, by rw [HNR.out]; omega, HT6, by omega, HRN.out.1, HRN.out.2, HS6, HW6⟩
                case measure => simp [intOf]; omega
            · have HRN : Hid (∃ c, oi = out ++ c ∧ SymR nl ps (kd, nm) c) := hide1 (by
                obtain ⟨r0, h4, h5⟩ := HRi.out
                rw [List.take_of_length_le (by have := HNR.out; omega)] at h5
                refine ⟨r0, h4, .inl ⟨HH3.out, ?_⟩⟩
                have h := sen_rule HPP.out h5
                rw [HPN.out] at h
                exact h)
              go_wp2_with fail
              go_ret
              exact ⟨true, ai, oi, si, vi, rfl, HTi.out, by omega, by omega, fun _ => ⟨hs4, HRN.out⟩, HT5.out.and HSi.out, OwS.low HWi.out HT5.out.2.2.2.1⟩
        · have HKZ : Hid (Kept w3 (w3.alloc (.cells #[.int .i64 0, .slice none 0 0] 37)).drew) := hide1 (gtrans ((Kept.refl w3).alloc _ _) (drew_kept (w3.alloc (.cells #[.int .i64 0, .slice none 0 0] 37))))
          go_simp
          refine hK.out _ _ ⟨HKZ.out.but b, (HB3.out.keep HKZ.out).cells.2.2.2.1⟩ (fun hHeld2 => ?_)
          clear hK K hHeld
          have hHeld := hHeld2
          clear hHeld2
          try simp only [Act.put, List.setIfInBounds_toArray, List.set_cons_zero, List.set_cons_succ]
          refine wpAnyH_ready (rs := [9]) (by kernel_rfl) (by simp) ?_
          refine AllReadyH.cons (i := 9) rfl (fun K hK => ?_) AllReadyH.nil
          go_simp
          go_wp2_with (go_at_call 39; refine (pick_is _ b (.slice al nl cl) x1 x2 (.slice ap np cp) (.slice oa n oc) ak nk ck at_ m ((st : Int) + 1) pks (HB3.out.keep HKZ.out) (HKK.out.keep (gtrans HK03.out HKZ.out)) HPK.out hm1 hm5 (by omega)).mono ?_; rintro e w4 ⟨r, a4, rfl, hr, ha4, hB4, hk4⟩; have HR := hide1 hr; have HA4 := hide1 ha4; have HB4 := hide1 hB4; have HK4 := hide1 hk4; clear hr ha4 hB4 hk4)
          have HK34 : Hid (KeptBut b w3 w4) := hide1 ((HKZ.out.but b).trans HK4.out)
          refine hK.out _ _ ⟨HK34.out, HB4.out.cells.2.2.2.1⟩ (fun hHeld2 => ?_)
          clear hK K hHeld
          have hHeld := hHeld2
          clear hHeld2
          try simp only [Act.put, List.setIfInBounds_toArray, List.set_cons_zero, List.set_cons_succ]
          obtain ⟨q, hq⟩ : ∃ q, (ownTo ps nm ps.length)[r]? = some q := ⟨_, List.getElem?_eq_getElem (by have h := HMM.out; unfold natsI at h; rw [List.length_map] at h; have := HR.out; omega)⟩
          obtain ⟨p, hp, hpn⟩ := ownTo_mem (List.mem_of_getElem? hq)
          obtain ⟨vb, vo, ev, k0⟩ := HVR.out.at_ (i := r) (x := (q : Int)) (by unfold natsI; rw [List.getElem?_map, hq]; rfl)
          have hvb : vb ≠ b := by have h := (HV.out.lt vb (by rw [ev]; rfl)).1; have h2 := (drew_kept W2).size; have h3 := HB2.out.lt; omega
          subst ev
          have hqn : q < np := by have h := (List.getElem?_eq_some_iff.1 hp).1; have := HPS.out; omega
          obtain ⟨cb, o2, cs, ea, hcb, hlen, hcell, v', hcs, hrt⟩ := SliceOf.el HP.out hp
          subst ea hcs
          obtain ⟨ra, rc, hv', hrc⟩ := SliceOf.len hrt
          subst hv'
          have hcbb : cb ≠ b := by have := HW0.out; omega
          have HC0 : Hid (w3.cell? ⟨cb, o2 + q * 2, none⟩ = some (.int .i64 p.1)) := hide1 (grown_cell HK03.out (hcell 0 _ rfl))
          have HC1 : Hid (w3.cell? ⟨cb, o2 + q * 2 + 1, none⟩ = some (.slice ra p.2.length rc)) := hide1 (grown_cell HK03.out (hcell 1 _ rfl))
          have HC2 := hide1 k0
          have HRT := hide1 hrt
          have HPP := hide1 hp
          have HPN := hide1 hpn
          have HRC := hide1 hrc
          have gr : (r : Int) < (m : Int) := by have := HR.out; omega
          have grc : (r : Int) < (vc : Int) := by have := HR.out; have := HVC.out; omega
          have gq : (q : Int) < (np : Int) := by omega
          have gqc : (q : Int) < (cp : Int) := by obtain ⟨_, _, q1, hc1, _⟩ := HP.out.len; simp only [Value.slice.injEq] at q1; obtain ⟨_, _, rfl⟩ := q1; have := HPS.out; omega
          clear hcell hlen hrt hp hpn hq k0 hrc
          refine wpAnyH_take (i := 10) (v := .pointer (some ⟨vb, vo + r, none⟩)) rfl (by kernel_rfl) (by kernel_rfl) (by kernel_rfl) (fun _ _ _ h => h) (Or.inl ⟨by rfl, fun w' hSw => ?_⟩) (by with_reducible assumption) ?_
          · clear hSw
            go_simp
          try simp only [Act.put, List.setIfInBounds_toArray, List.set_cons_zero, List.set_cons_succ]
          refine wpAnyH_take (i := 11) (v := .int .i64 (q : Int)) rfl (by kernel_rfl) (by kernel_rfl) (by kernel_rfl) (fun _ _ _ h => h) (Or.inl ⟨by rfl, fun w' hSw => ?_⟩) (by with_reducible assumption) ?_
          · have s0 := kb_cell hSw.1 hvb HC2.out
            clear hSw
            go_simp
          try simp only [Act.put, List.setIfInBounds_toArray, List.set_cons_zero, List.set_cons_succ]
          refine wpAnyH_take (i := 12) (v := .pointer (some ⟨cb, o2 + q * 2, none⟩)) rfl (by kernel_rfl) (by kernel_rfl) (by kernel_rfl) (fun _ _ _ h => h) (Or.inl ⟨by rfl, fun w' hSw => ?_⟩) (by with_reducible assumption) ?_
          · clear hSw
            go_simp
          try simp only [Act.put, List.setIfInBounds_toArray, List.set_cons_zero, List.set_cons_succ]
          refine wpAnyH_take (i := 13) (v := .agg #[.int .i64 p.1, .slice ra p.2.length rc]) rfl (by kernel_rfl) (by kernel_rfl) (by kernel_rfl) (fun _ _ _ h => h) (Or.inl ⟨by rfl, fun w' hSw => ?_⟩) (by with_reducible assumption) ?_
          · have s0 := kb_cell hSw.1 hcbb HC0.out
            have s1 := kb_cell hSw.1 hcbb HC1.out
            clear hSw
            go_simp
          try simp only [Act.put, List.setIfInBounds_toArray, List.set_cons_zero, List.set_cons_succ]
          have HPZ : Hid (PBox (w3.alloc (.cells #[.int .i64 0, .slice none 0 0] 37)).drew w3.heap.size (.int .i64 0) (.slice none 0 0)) := hide1 ((PBox.new w3 _ _).keep (drew_kept _))
          have HP4 := hide1 (HPZ.out.but HK4.out (by have := HB3L.out; omega))
          have HCH := hide1 (cho_two (at_ := at_) (st := st + 1) (p := p) (u := .slice ra p.2.length rc) (Nat.le_refl _) HB3L.out HKZ.out HPZ.out HB4.out HA4.out HK4.out)
          refine wpAnyH_ready (rs := [15]) (by kernel_rfl) (by simp) ?_
          refine AllReadyH.cons (i := 15) rfl (fun K hK => ?_) AllReadyH.nil
          obtain ⟨s0, s1⟩ := HP4.out.cells
          have z0 := HP4.out.free 0
          have z1 := HP4.out.free 1
          go_simp
          clear s0 s1 z0 z1
          refine hK.out _ _ ⟨HCH.out.2.1, HCH.out.1.choose_spec.2.cells.2.2.2.1⟩ (fun hHeld2 => ?_)
          clear hK K hHeld
          have hHeld := hHeld2
          clear hHeld2
          try simp only [Act.put, List.setIfInBounds_toArray, List.set_cons_zero, List.set_cons_succ]
          refine wpAnyH_done (by kernel_rfl) ?_ _
          clear hHeld
          generalize (w4.setCell ⟨w3.heap.size, 0, none⟩ (.int .i64 p.1)).setCell ⟨w3.heap.size, 1, none⟩ (.slice ra p.2.length rc) = W5 at HCH ⊢
          clear HPZ HP4
          obtain ⟨pb, hpb⟩ : ∃ pb, w3.heap.size = pb := ⟨_, rfl⟩
          have HCH2 : Hid (ChoR w3 b (.slice al nl cl) x1 x2 (.slice (some ⟨cb, o2, none⟩) np cp) (.slice ak nk ck) (.slice oa n oc) at_ (st + 1) p (.slice ra p.2.length rc) pb W5) := hide1 (hpb ▸ HCH.out)
          clear HCH
          have HCH := HCH2
          clear HCH2
          rw [hpb]
          clear hpb
          obtain ⟨a5, ha5, hB5⟩ := HCH.out.1
          have HB5 := hide1 hB5
          have HA5 := hide1 ha5
          have HK35 := hide1 HCH.out.2.1
          have HPB := hide1 HCH.out.2.2.1
          have HPL := hide1 HCH.out.2.2.2
          clear ha5 hB5 HCH
          obtain ⟨nr, hnr⟩ : ∃ nr, p.2.length = nr := ⟨_, rfl⟩
          rw [hnr] at HPB HRC HRT HC1 ⊢
          have HNR := hide1 hnr
          clear hnr
          have gnr : (nr : Int) ≤ 17592186044416 := by have := HRC.out.2; omega
          have hnrc : nr ≤ rc := HRC.out.1
          have HT5 := hide1 (HT3.out.and (TkS.of_but HK35.out))
          have HO5 := hide1 (HO3.out.but HK35.out (fun d hd => by have := (HO3.out.lt d hd).1; omega))
          have HK05 := hide1 (KeptBut.up HK03.out (by have := HW0.out; omega) HK35.out)
          have HTP : Hid (Tp W0 b (.slice al nl cl) x1 x2 (.slice (some ⟨cb, o2, none⟩) np cp) (.slice ak nk ck) a5 out (st + 1) (.slice oa n oc) W5) := hide1 ⟨⟨_, _, by rw [HNO.out]⟩, HB5.out, HO5.out, HK05.out, by have := HA5.out; omega, by rw [HNO.out]; omega⟩
          have HPN1 : Hid (some pb ≠ (Value.slice oa n oc).ownBlock) := hide1 (fun e => by have h := (HO3.out.lt pb e.symm).2; have := HPL.out; omega)
          have hpb : pb ≠ b := by have := HPL.out; have := HB3L.out; omega
          go_wp2_with fail
          go_loopw [7] (MaI W0 b (.slice al nl cl) x1 x2 (.slice (some ⟨cb, o2, none⟩) np cp) (.slice ak nk ck) nl ps p.2 out st (.slice oa n oc) W5) (fun i _ => nr - (intOf i).toNat)
          case atStart => exact ⟨0, a5, out, st + 1, .slice oa n oc, rfl, Nat.zero_le _, HTP, Nat.le_refl _, by omega, ⟨[], by simp, rfl⟩, TkS.refl _ _ _, .inl rfl⟩
          case round =>
            obtain ⟨i, ai, oi, si, vi, rfl, hi, HTi, hs1, hs4, HRi, HSi, HWi⟩ := hrel
            rw [HNR.out] at hi
            have HPr : Hid (PBox wr pb (.int .i64 p.1) (.slice ra nr rc)) := hide1 ((HSi.out.2.2.2.2 pb HPB.out.lt hpb HPN1.out).trans HPB.out)
            obtain ⟨k0, k1⟩ := HPr.out.cells
            by_cases hlt : (i : Int) < (nr : Int)
            · obtain ⟨y, hy⟩ : ∃ y, p.2[i]? = some y := ⟨_, List.getElem?_eq_getElem (by have := HNR.out; omega)⟩
              obtain ⟨yk, yn⟩ := y
              obtain ⟨rb, ro, cs, ea, _, hlen, hcell, hcs⟩ := SliceOf.el (HRT.out.keep HTi.out.2.2.2.1) hy
              have hcs : cs = [.int .i64 yk, .int .i64 yn] := hcs
              subst ea hcs
              have e0 : wr.cell? ⟨rb, ro + i * 2, none⟩ = some (.int .i64 yk) := hcell 0 _ rfl
              have e1 : wr.cell? ⟨rb, ro + i * 2 + 1, none⟩ = some (.int .i64 yn) := hcell 1 _ rfl
              have gic : (i : Int) < (rc : Int) := by omega
              have HYI := hide1 ((HIN.out p (List.mem_of_getElem? HPP.out)).2 (yk, yn) (List.mem_of_getElem? hy))
              have HYY := hide1 hy
              clear hcell hlen hy
              go_wp2_with fail
              refine (HIH.out (yk, yn) ai si oi vi _ (by omega) hs4 HYI.out HTi.out).mono ?_
              rintro e w6 ⟨r6, a6, o6, s6, v6, rfl, hT6, hs6, hs61, hr6, hS6, hW6⟩
              have HT6 := hide1 hT6
              have HR6 := hide1 hr6
              have HS6 := hide1 (HSi.out.trans HWi.out hS6)
              have HW6 := hide1 (HWi.out.trans hW6 HSi.out.2.2.2.1)
              clear hT6 hr6 hS6 hW6 k0 k1 e0 e1
              cases r6 with
              | false =>
                go_wp2_with fail
                go_ret
                exact ⟨false, a6, o6, s6, v6, rfl, HT6.out, by omega, hs61, (fun h => by cases h), HT5.out.and HS6.out, OwS.low HW6.out HT5.out.2.2.2.1⟩
              | true =>
                have HRN : Hid (s6 ≤ 400 ∧ ∃ r, o6 = out ++ r ∧ RowOf nl (Sen nl ps) (p.2.take (i + 1)) r) := hide1 (by
                  obtain ⟨h1, c, h2, h3⟩ := HR6.out rfl
                  obtain ⟨r0, h4, h5⟩ := HRi.out
                  exact ⟨h1, r0 ++ c, by rw [h2, h4, List.append_assoc], h5.more HYY.out h3⟩)
                go_wp2_with fail
                go_roundw
                case rel => exact ⟨i + 1, a6, o6, s6, v6, by go_num, by rw [HNR.out]; omega, HT6, by omega, HRN.out.1, HRN.out.2, HS6, HW6⟩
                case measure => simp [intOf]; omega
            · have HRN : Hid (∃ c, oi = out ++ c ∧ SymR nl ps (kd, nm) c) := hide1 (by
                obtain ⟨r0, h4, h5⟩ := HRi.out
                rw [List.take_of_length_le (by have := HNR.out; omega)] at h5
                refine ⟨r0, h4, .inl ⟨HH3.out, ?_⟩⟩
                have h := sen_rule HPP.out h5
                rw [HPN.out] at h
                exact h)
              go_wp2_with fail
              go_ret
              exact ⟨true, ai, oi, si, vi, rfl, HTi.out, by omega, by omega, fun _ => ⟨hs4, HRN.out⟩, HT5.out.and HSi.out, OwS.low HWi.out HT5.out.2.2.2.1⟩

end Ex
end Go.Proofs.YtjomglclefbffaaDoor
