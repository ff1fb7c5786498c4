import Derived.Test.YtggodknnfpegmaaDoorMSpSz
namespace Go.Proofs.YtggodknnfpegmaaDoor
open Go.RowKit
attribute [local go_sem] Oper.semAt_some
namespace Ex

theorem eqItems_sz (d : Nat) (v v0 : Nat → Nat) (w : World) : ∀ is : List Nat, (∀ i ∈ is, i < 128) → (Op.eqItems (d + 1) 3 1 (szV v) (szV v0) is).run Tryd.prog w = .ok (is.all fun i => v i == v0 i) w
  | [], _ => by simp [Op.eqItems]
  | i :: is, h => by
    have hpl : Tryd.prog.plainKey 3 = true := by kernel_rfl
    have hw : Tryd.prog.underlying 3 = some (.int .i64) := by kernel_rfl
    have hi := h i List.mem_cons_self
    simp only [Op.eqItems, Sem.run_bind, Nat.mul_one]
    rw [run_part_plain w hpl (szV_at v hi)]
    simp only [Result.andThen_ok]
    rw [run_part_plain w hpl (szV_at v0 hi)]
    simp only [Result.andThen_ok]
    rw [run_equalIn_int w d _ .i64 .i64 _ _ hw]
    simp only [Result.andThen_ok, List.all_cons]
    have e : (((v i : Nat) : Int) == ((v0 i : Nat) : Int)) = (v i == v0 i) := by
      rw [Bool.eq_iff_iff, beq_iff_eq, beq_iff_eq]
      omega
    rw [e]
    cases hb : (v i == v0 i) with
    | false => simp
    | true =>
      simp only [Bool.not_true, Bool.false_eq_true, if_false, Bool.true_and]
      exact eqItems_sz d v v0 w is (fun j hj => h j (List.mem_cons_of_mem _ hj))
theorem neq_sz (v v0 : Nat → Nat) (w : World) : (binOp .neq 148 (.agg (szV v)) (.agg (szV v0))).run Tryd.prog w = .ok (.bool (!eqV v v0)) w := by
  have hu : Tryd.prog.underlying 148 = some (.array 128 3) := by kernel_rfl
  have hi0 : (Tryd.prog.info? 3).isSome = true := by kernel_rfl
  obtain ⟨i, hi⟩ := Option.isSome_iff_exists.1 hi0
  have hc : Tryd.prog.cellsOf 3 = 1 := by kernel_rfl
  rw [run_neq_struct, run_equalIn_array w 9999 _ _ hu hi, hc, eqItems_sz 9998 v v0 w _ (fun i hi => List.mem_range.1 hi)]
  rfl
/-- The sum of the sizes in a block, read off the world. -/
def rdSz (d : Nat) (w : World) : Nat := sumV (fun i => match w.cell? ⟨d, i, none⟩ with | some x => (intOf x).toNat | none => 0) 128
theorem sumV_congr {v v' : Nat → Nat} : ∀ {m : Nat}, (∀ i, i < m → v i = v' i) → sumV v m = sumV v' m
  | 0, _ => rfl
  | m + 1, h => by
    show sumV v m + v m = sumV v' m + v' m
    rw [sumV_congr (fun i hi => h i (by omega)), h m (by omega)]
theorem SzB.rd {w : World} {d : Nat} {v : Nat → Nat} (h : SzB w d v) : rdSz d w = sumV v 128 := by
  unfold rdSz
  refine sumV_congr (fun i hi => ?_)
  rw [h.cell hi]
  show ((v i : Nat) : Int).toNat = v i
  rw [Int.toNat_natCast]
theorem eqV_not {v v' : Nat → Nat} (h : eqV v v' = false) : ∃ i, i < 128 ∧ v i ≠ v' i := by
  obtain ⟨i, hi, hn⟩ := List.all_eq_false.1 h
  exact ⟨i, List.mem_range.1 hi, by simpa using hn⟩
theorem eqV_all {v v' : Nat → Nat} (h : eqV v v' = true) (i : Nat) (hi : i < 128) : v i = v' i := by
  simpa using List.all_eq_true.1 h i (List.mem_range.2 hi)
theorem sz_two (w : World) (v : Nat → Nat) : SzB ((w.alloc (.cells (szV v) 148)).alloc (.cells Tryd.zeroCells148 148)) w.heap.size v ∧ SzB ((w.alloc (.cells (szV v) 148)).alloc (.cells Tryd.zeroCells148 148)) (w.heap.size + 1) (fun _ => 0) ∧ Kept w ((w.alloc (.cells (szV v) 148)).alloc (.cells Tryd.zeroCells148 148)) := by
  refine ⟨(SzB.new w v).keep ((Kept.refl _).alloc _ _), ?_, ((Kept.refl w).alloc _ _).alloc _ _⟩
  have h := sz_zero (w.alloc (.cells (szV v) 148))
  rw [World.size_alloc] at h
  exact h
def LzI (R : (Nat → Nat) → Prop) (w : World) (wr : World) : Prop := ∃ v, Hid (R v) ∧ Hid (SzB wr w.heap.size v) ∧ Hid (SzB wr (w.heap.size + 1) fun _ => 0) ∧ Hid (Kept w wr)
def LzR (R Fin : (Nat → Nat) → Prop) (w : World) (e : Ending) (w' : World) : Prop := ∃ v, R v ∧ Fin v ∧ e = .returned (.agg (szV v)) ∧ Kept w w'
set_option linter.unusedSimpArgs false in
set_option maxRecDepth 100000 in
set_option maxHeartbeats 4000000 in
theorem leastSz_is (f : Nat) (bs : Array Value) (v0 : Nat → Nat) (R Fin : (Nat → Nat) → Prop) (w : World) (h0 : R v0) (ef : ∀ args w, (callFunc f args).run Tryd.prog w = .ok (.enter f args) w)
    (hf : ∀ v wr, R v → SzB wr w.heap.size v → Kept w wr → Calls Tryd.prog f (#[.pointer (some ⟨w.heap.size, 0, none⟩)] ++ bs) wr fun e w' => ∃ v', R v' ∧ (∀ n, v' n ≤ v n) ∧ (eqV v' v = true → Fin v') ∧ e = .returned (.bool (!eqV v' v)) ∧ SzB w' w.heap.size v' ∧ KeptBut w.heap.size wr w') :
    Calls Tryd.prog 105 #[.agg (szV v0), .func (.func f) #[] bs] w (LzR R Fin w) := by
  have H0 := hide1 h0
  have HF := hide1 hf
  obtain ⟨h1, h2, h3⟩ := sz_two w v0
  have HS1 := hide1 h1
  have HS2 := hide1 h2
  have HK := hide1 h3
  clear h0 hf h1 h2 h3
  go_enter Tryd.func105, Tryd.ntmps105
  go_upto_region 1 with fail
  obtain ⟨W, hW⟩ : ∃ W, (w.alloc (.cells (szV v0) 148)).alloc (.cells Tryd.zeroCells148 148) = W := ⟨_, rfl⟩
  rw [hW] at HS1 HS2 HK ⊢
  clear hW
  go_loopw [] (LzI R w) (fun wr => rdSz w.heap.size wr)
  case atStart => exact ⟨v0, H0, HS1, HS2, HK⟩
  case round =>
    obtain ⟨v, HA, HSA, HSZ, HKr⟩ := hrel
    have HC := hide1 (HF.out v wr HA.out HSA.out HKr.out)
    have hef := ef
    go_wp2_with fail
    refine HC.out.mono ?_
    rintro e w6 ⟨v', hr6, hu6, hf6, rfl, hs6, hk6⟩
    have HR6 := hide1 hr6
    have HU6 := hide1 hu6
    have HF6 := hide1 hf6
    have HS6 := hide1 hs6
    have HZ6 := hide1 (HSZ.out.but hk6 (by omega))
    have HKK := hide1 (KeptBut.up HKr.out (Nat.le_refl _) hk6)
    clear hr6 hu6 hf6 hs6 hk6
    cases hne : eqV v' v with
    | true =>
      have HFA := hide1 (HF6.out hne)
      clear hne
      go_wp2_with (first
        | (refine wpList_load_row rfl 148 _ rfl w.heap.size rfl 148 (szV v') (0, 0) _ (by exact HS6.out) Tryd.underlying148 rfl (sz_size v') ?_)
        | (refine wpList_store_row rfl 148 _ _ rfl (w.heap.size + 1) (szV v') rfl rfl 148 (szV fun _ => 0) (by exact HZ6.out) (sz_size v') (by rw [szV_size, szV_size]) (szV_one v') ?_))
      refine bodyPost_ret (results_cell_row rfl _ _ (w.heap.size + 1) 148 (szV v') (0, 0) _ rfl (setRow_heap _ _ _ _ _ _ HZ6.out) Tryd.underlying148 rfl (sz_size _)) rfl ?_
      exact ⟨v', HR6.out, HFA.out, rfl, KeptBut.up HKK.out (by omega) (setRow_butS _ (w.heap.size + 1) _)⟩
    | false =>
      have HNE := hide1 hne
      clear hne
      go_wp2_with fail
      go_roundw
      case rel => exact ⟨v', HR6, HS6, HZ6, HKK⟩
      case measure =>
        rw [HS6.out.rd, HSA.out.rd]
        obtain ⟨i, hi, hn⟩ := eqV_not HNE.out
        exact sumV_lt HU6.out hi (Nat.lt_of_le_of_ne (HU6.out i) hn)

end Ex
end Go.Proofs.YtggodknnfpegmaaDoor
namespace Go.Proofs.YtggodknnfpegmaaDoor
open Go.RowKit
attribute [local go_sem] Oper.semAt_some
namespace Ex

def fillV (j : Nat) : Nat → Nat := fun i => if i < j then 257 else 0
def FiI (W : World) (b : Nat) (vi : Value) (wr : World) : Prop := ∃ j : Nat, vi = .int .i64 (j : Int) ∧ j ≤ 128 ∧ Hid (SzB wr b (fillV j)) ∧ Hid (KeptBut b W wr)
theorem sz_congr {w : World} {b : Nat} {v v' : Nat → Nat} (h : SzB w b v) (hv : ∀ i, i < 128 → v i = v' i) : SzB w b v' := by
  unfold SzB at h ⊢
  rw [h, szV_congr hv]
/-- The sizes of the least empty trees. -/
def EmR (ps : List ProdM) (w : World) (e : Ending) (w' : World) : Prop := ∃ v, e = .returned (.agg (szV v)) ∧ EzIs ps v ∧ Kept w w'
set_option linter.unusedSimpArgs false in
set_option maxRecDepth 100000 in
set_option maxHeartbeats 4000000 in
theorem emptySizes_is (ps : List ProdM) (x0 x1 x2 : Value) (ap : Option Addr) (np cp : Nat) (w : World) (hps : ps.length = np) (hp : ProdsAt w (.slice ap np cp) ps) (hok : ∀ p ∈ ps, ProdOk p) :
    Calls Tryd.prog 93 #[.agg #[x0, x1, x2, .slice ap np cp]] w (EmR ps w) := by
  have HK1 : Hid (Kept w (w.alloc (.cells #[x0, x1, x2, .slice ap np cp] 26))) := (Kept.refl w).alloc _ _
  have HB1 := hide1 (SBox.new w x0 x1 x2 (.slice ap np cp))
  obtain ⟨W1, hW1⟩ : ∃ W1, w.alloc (.cells #[x0, x1, x2, .slice ap np cp] 26) = W1 := ⟨_, rfl⟩
  have hs1 : W1.heap.size = w.heap.size + 1 := by rw [← hW1, World.size_alloc]
  rw [hW1] at HK1 HB1
  have HK2 : Hid (Kept W1 (W1.alloc (.cells Tryd.zeroCells148 148))) := (Kept.refl _).alloc _ _
  have HB2 := hide1 (sz_zero W1)
  obtain ⟨W2, hW2⟩ : ∃ W2, W1.alloc (.cells Tryd.zeroCells148 148) = W2 := ⟨_, rfl⟩
  have hs2 : W2.heap.size = w.heap.size + 1 + 1 := by rw [← hW2, World.size_alloc, hs1]
  rw [hW2] at HK2 HB2
  have HK3 : Hid (Kept W2 (W2.alloc (.cells Tryd.zeroCells148 148))) := (Kept.refl _).alloc _ _
  have HB3 := hide1 (sz_zero W2)
  obtain ⟨W3, hW3⟩ : ∃ W3, W2.alloc (.cells Tryd.zeroCells148 148) = W3 := ⟨_, rfl⟩
  rw [hW3] at HK3 HB3
  rw [hs1] at HB2
  rw [hs2] at HB3
  have HP := hide1 hp
  have HPS := hide1 hps
  have HOK := hide1 hok
  have HW1 := hide1 hW1
  have HW2 := hide1 hW2
  have HW3 := hide1 hW3
  have HS1 := hide1 hs1
  have HS2 := hide1 hs2
  clear hp hps hok hW1 hW2 hW3 hs1 hs2
  go_enter Tryd.func93, Tryd.ntmps93
  go_upto_region 2 with fail
  rw [HW1.out, HW2.out, HW3.out]
  clear HW1 HW2 HW3
  obtain ⟨b, hb⟩ : ∃ b, w.heap.size = b := ⟨_, rfl⟩
  rw [hb] at HB1 HB2 HB3 HS1 HS2 ⊢
  have HSB := hide1 hb
  clear hb
  have HB23 := hide1 (HB2.out.keep HK3.out)
  have HB13 := hide1 (HB1.out.keep (gtrans HK2.out HK3.out))
  go_wp2_with fail
  go_loopw [5] (FiI W3 (b + 1 + 1)) (fun i _ => 128 - (intOf i).toNat)
  case atStart => exact ⟨0, rfl, by omega, sz_congr HB3.out (fun i _ => by unfold fillV; rw [if_neg (by omega)]), but_refl _ _⟩
  case round =>
    obtain ⟨j, rfl, hj, HSr, HKr⟩ := hrel
    by_cases hlt : (j : Int) < 128
    · have hj8 : j < 128 := by omega
      have c0 := HSr.out.cell hj8
      have z0 := HSr.out.free j
      have HJ8 := hide1 hj8
      clear hj8
      go_wp2_with fail
      go_roundw
      case rel =>
        have h257 := HSr.out.set 257 HJ8.out
        exact ⟨j + 1, by go_num, by have := HJ8.out; omega, sz_congr h257 (fun i _ => by unfold putV fillV; by_cases e : i = j; (rw [if_pos e, if_pos (by omega)]); rw [if_neg e]; by_cases e2 : i < j; (rw [if_pos e2, if_pos (by omega)]); rw [if_neg e2, if_neg (by omega)]), but_set HKr.out _ _⟩
      case measure => simp [intOf]; omega
    · have hj8 : j = 128 := by omega
      have HS7 : Hid (SzB wr (b + 1 + 1) fun _ => 257) := sz_congr HSr.out (fun i hi => by unfold fillV; rw [if_pos (by omega)])
      have HKW : Hid (Kept w wr) := KeptBut.up (gtrans HK1.out (gtrans HK2.out HK3.out)) (by rw [HSB.out]; omega) HKr.out
      have HB17 := hide1 (HB13.out.but HKr.out (by omega))
      have HB27 := hide1 (HB23.out.but HKr.out (by omega))
      have HC := hide1 (leastSz_is 106 #[.pointer (some ⟨b, 0, none⟩)] (fun _ => 257) (fun v => ((∀ n, v n ≤ 257) ∧ ∀ n, 128 ≤ n → v n = 257) ∧ EzSound ps v) (fun v => EzStep ps v v ps.length) wr ⟨⟨fun _ => Nat.le_refl _, fun _ _ => rfl⟩, fun n => ⟨Nat.le_refl _, fun h => absurd (show (257 : Nat) ≤ 256 from h) (by decide)⟩⟩ (enters_of Tryd.func106 (by kernel_rfl) rfl)
        (fun v wr' hR hS hk => (esStep_is wr.heap.size b v ps x0 x1 x2 ap np cp wr wr' hR.1.1 HPS.out hS (HB17.out.keep hk) (HP.out.keep HKW.out) hk (Nat.le_refl _) (Nat.ne_of_lt HB17.out.lt) HOK.out (fun v' w' => neq_sz v' v w')).mono (by
          rintro e w' ⟨v', hm, hv', he, hs, hk'⟩
          refine ⟨v', ⟨⟨hv'.1, fun n hn => (hv'.2 n hn).trans (hR.1.2 n hn)⟩, hm.sound hR.2⟩, hm.down, fun hq => ?_, he, hs, hk'⟩
          have e2 : v' = v := funext (fun n => (by
            by_cases hn : n < 128
            · exact eqV_all hq n hn
            · exact hv'.2 n (by omega)))
          rw [e2] at hm ⊢
          exact hm)))
      go_wp2_with (first
        | (refine wpList_load_row rfl 148 _ rfl (b + 1 + 1) rfl 148 (szV fun _ => 257) (0, 0) _ (by exact HS7.out) Tryd.underlying148 rfl (sz_size _) ?_)
        | (go_at_call 105; refine HC.out.mono ?_; rintro e w6 ⟨v, hr6, hf6, rfl, hk6⟩; have HR6 := hide1 hr6; have HF6 := hide1 hf6; have HK6 := hide1 hk6; have HZ6 := hide1 (HB27.out.keep hk6); clear hr6 hf6 hk6)
        | (refine wpList_store_row rfl 148 _ _ rfl (b + 1) (szV v) rfl rfl 148 (szV fun _ => 0) (by exact HZ6.out) (sz_size v) (by rw [szV_size, szV_size]) (szV_one v) ?_))
      refine bodyPost_ret (results_cell_row rfl _ _ (b + 1) 148 (szV v) (0, 0) _ rfl (setRow_heap _ _ _ _ _ _ HZ6.out) Tryd.underlying148 rfl (sz_size _)) rfl ?_
      exact ⟨v, rfl, HF6.out.done HR6.out.2, KeptBut.up (gtrans HKW.out HK6.out) (by rw [HSB.out]; omega) (setRow_butS _ (b + 1) _)⟩

end Ex
end Go.Proofs.YtggodknnfpegmaaDoor
