import Derived.Test.YtooelfjceehmmaaDoorMSpSs
namespace Go.Proofs.YtooelfjceehmmaaDoor
open Go.RowKit
attribute [local go_sem] Oper.semAt_some
namespace Ex

theorem eqItems_sz (d : Nat) (v v0 : Nat → Nat) (w : World) : ∀ is : List Nat, (∀ i ∈ is, i < 128) → (Op.eqItems (d + 1) 3 1 (szV v) (szV v0) is).run Tryd.prog w = .ok (is.all fun i => v i == v0 i) w
  | [], _ => by simp [Op.eqItems]
  | i :: is, h => by
    have hpl : Tryd.prog.plainKey 3 = true := by kernel_rfl
    have hw : Tryd.prog.underlying 3 = some (.int .i64) := by kernel_rfl
    have hi := h i List.mem_cons_self
    simp only [Op.eqItems, Sem.run_bind, Nat.mul_one]
    rw [run_part_plain w hpl (szV_at v hi)]
    simp only [Result.andThen_ok]
    rw [run_part_plain w hpl (szV_at v0 hi)]
    simp only [Result.andThen_ok]
    rw [run_equalIn_int w d _ .i64 .i64 _ _ hw]
    simp only [Result.andThen_ok, List.all_cons]
    have e : (((v i : Nat) : Int) == ((v0 i : Nat) : Int)) = (v i == v0 i) := by
      rw [Bool.eq_iff_iff, beq_iff_eq, beq_iff_eq]
      omega
    rw [e]
    cases hb : (v i == v0 i) with
    | false => simp
    | true =>
      simp only [Bool.not_true, Bool.false_eq_true, if_false, Bool.true_and]
      exact eqItems_sz d v v0 w is (fun j hj => h j (List.mem_cons_of_mem _ hj))
theorem neq_sz (v v0 : Nat → Nat) (w : World) : (binOp .neq 140 (.agg (szV v)) (.agg (szV v0))).run Tryd.prog w = .ok (.bool (!eqV v v0)) w := by
  have hu : Tryd.prog.underlying 140 = some (.array 128 3) := by kernel_rfl
  have hi0 : (Tryd.prog.info? 3).isSome = true := by kernel_rfl
  obtain ⟨i, hi⟩ := Option.isSome_iff_exists.1 hi0
  have hc : Tryd.prog.cellsOf 3 = 1 := by kernel_rfl
  rw [run_neq_struct, run_equalIn_array w 9999 _ _ hu hi, hc, eqItems_sz 9998 v v0 w _ (fun i hi => List.mem_range.1 hi)]
  rfl
/-- The sum of the sizes in a block, read off the world. -/
def rdSz (d : Nat) (w : World) : Nat := sumV (fun i => match w.cell? ⟨d, i, none⟩ with | some x => (intOf x).toNat | none => 0) 128
theorem sumV_congr {v v' : Nat → Nat} : ∀ {m : Nat}, (∀ i, i < m → v i = v' i) → sumV v m = sumV v' m
  | 0, _ => rfl
  | m + 1, h => by
    show sumV v m + v m = sumV v' m + v' m
    rw [sumV_congr (fun i hi => h i (by omega)), h m (by omega)]
theorem SzB.rd {w : World} {d : Nat} {v : Nat → Nat} (h : SzB w d v) : rdSz d w = sumV v 128 := by
  unfold rdSz
  refine sumV_congr (fun i hi => ?_)
  rw [h.cell hi]
  show ((v i : Nat) : Int).toNat = v i
  rw [Int.toNat_natCast]
theorem eqV_not {v v' : Nat → Nat} (h : eqV v v' = false) : ∃ i, i < 128 ∧ v i ≠ v' i := by
  obtain ⟨i, hi, hn⟩ := List.all_eq_false.1 h
  exact ⟨i, List.mem_range.1 hi, by simpa using hn⟩
theorem eqV_all {v v' : Nat → Nat} (h : eqV v v' = true) (i : Nat) (hi : i < 128) : v i = v' i := by
  simpa using List.all_eq_true.1 h i (List.mem_range.2 hi)
theorem sz_two (w : World) (v : Nat → Nat) : SzB ((w.alloc (.cells (szV v) 140)).alloc (.cells Tryd.zeroCells140 140)) w.heap.size v ∧ SzB ((w.alloc (.cells (szV v) 140)).alloc (.cells Tryd.zeroCells140 140)) (w.heap.size + 1) (fun _ => 0) ∧ Kept w ((w.alloc (.cells (szV v) 140)).alloc (.cells Tryd.zeroCells140 140)) := by
  refine ⟨(SzB.new w v).keep ((Kept.refl _).alloc _ _), ?_, ((Kept.refl w).alloc _ _).alloc _ _⟩
  have h := sz_zero (w.alloc (.cells (szV v) 140))
  rw [World.size_alloc] at h
  exact h
def LzI (R : (Nat → Nat) → Prop) (w : World) (wr : World) : Prop := ∃ v, Hid (R v) ∧ Hid (SzB wr w.heap.size v) ∧ Hid (SzB wr (w.heap.size + 1) fun _ => 0) ∧ Hid (Kept w wr)
def LzR (R Fin : (Nat → Nat) → Prop) (w : World) (e : Ending) (w' : World) : Prop := ∃ v, R v ∧ Fin v ∧ e = .returned (.agg (szV v)) ∧ Kept w w'
set_option linter.unusedSimpArgs false in
set_option maxRecDepth 100000 in
set_option maxHeartbeats 4000000 in
theorem leastSz_is (f : Nat) (bs : Array Value) (v0 : Nat → Nat) (R Fin : (Nat → Nat) → Prop) (w : World) (h0 : R v0) (ef : ∀ args w, (callFunc f args).run Tryd.prog w = .ok (.enter f args) w)
    (hf : ∀ v wr, R v → SzB wr w.heap.size v → Kept w wr → Calls Tryd.prog f (#[.pointer (some ⟨w.heap.size, 0, none⟩)] ++ bs) wr fun e w' => ∃ v', R v' ∧ (∀ n, v' n ≤ v n) ∧ (eqV v' v = true → Fin v') ∧ e = .returned (.bool (!eqV v' v)) ∧ SzB w' w.heap.size v' ∧ KeptBut w.heap.size wr w') :
    Calls Tryd.prog 98 #[.agg (szV v0), .func (.func f) #[] bs] w (LzR R Fin w) := by
  have H0 := hide1 h0
  have HF := hide1 hf
  obtain ⟨h1, h2, h3⟩ := sz_two w v0
  have HS1 := hide1 h1
  have HS2 := hide1 h2
  have HK := hide1 h3
  clear h0 hf h1 h2 h3
  go_enter Tryd.func98, Tryd.ntmps98
  go_upto_region 1 with fail
  obtain ⟨W, hW⟩ : ∃ W, (w.alloc (.cells (szV v0) 140)).alloc (.cells Tryd.zeroCells140 140) = W := ⟨_, rfl⟩
  rw [hW] at HS1 HS2 HK ⊢
  clear hW
  go_loopw [] (LzI R w) (fun wr => rdSz w.heap.size wr)
  case atStart => exact ⟨v0, H0, HS1, HS2, HK⟩
  case round =>
    obtain ⟨v, HA, HSA, HSZ, HKr⟩ := hrel
    have HC := hide1 (HF.out v wr HA.out HSA.out HKr.out)
    have hef := ef
    go_wp2_with fail
    refine HC.out.mono ?_
    rintro e w6 ⟨v', hr6, hu6, hf6, rfl, hs6, hk6⟩
    have HR6 := hide1 hr6
    have HU6 := hide1 hu6
    have HF6 := hide1 hf6
    have HS6 := hide1 hs6
    have HZ6 := hide1 (HSZ.out.but hk6 (by omega))
    have HKK := hide1 (KeptBut.up HKr.out (Nat.le_refl _) hk6)
    clear hr6 hu6 hf6 hs6 hk6
    cases hne : eqV v' v with
    | true =>
      have HFA := hide1 (HF6.out hne)
      clear hne
      go_wp2_with (first
        | (refine wpList_load_row rfl 140 _ rfl w.heap.size rfl 140 (szV v') (0, 0) _ (by exact HS6.out) Tryd.underlying140 rfl (sz_size v') ?_)
        | (refine wpList_store_row rfl 140 _ _ rfl (w.heap.size + 1) (szV v') rfl rfl 140 (szV fun _ => 0) (by exact HZ6.out) (sz_size v') (by rw [szV_size, szV_size]) (szV_one v') ?_))
      refine bodyPost_ret (results_cell_row rfl _ _ (w.heap.size + 1) 140 (szV v') (0, 0) _ rfl (setRow_heap _ _ _ _ _ _ HZ6.out) Tryd.underlying140 rfl (sz_size _)) rfl ?_
      exact ⟨v', HR6.out, HFA.out, rfl, KeptBut.up HKK.out (by omega) (setRow_butS _ (w.heap.size + 1) _)⟩
    | false =>
      have HNE := hide1 hne
      clear hne
      go_wp2_with fail
      go_roundw
      case rel => exact ⟨v', HR6, HS6, HZ6, HKK⟩
      case measure =>
        rw [HS6.out.rd, HSA.out.rd]
        obtain ⟨i, hi, hn⟩ := eqV_not HNE.out
        exact sumV_lt HU6.out hi (Nat.lt_of_le_of_ne (HU6.out i) hn)

end Ex
end Go.Proofs.YtooelfjceehmmaaDoor
