import Derived.Test.YtooelfjceehmmaaDoorMSpSt
namespace Go.Proofs.YtooelfjceehmmaaDoor
open Go.RowKit
attribute [local go_sem] Oper.semAt_some
namespace Ex

def fillV (j : Nat) : Nat → Nat := fun i => if i < j then 257 else 0
def FiI (W : World) (b : Nat) (vi : Value) (wr : World) : Prop := ∃ j : Nat, vi = .int .i64 (j : Int) ∧ j ≤ 128 ∧ Hid (SzB wr b (fillV j)) ∧ Hid (KeptBut b W wr)
theorem sz_congr {w : World} {b : Nat} {v v' : Nat → Nat} (h : SzB w b v) (hv : ∀ i, i < 128 → v i = v' i) : SzB w b v' := by
  unfold SzB at h ⊢
  rw [h, szV_congr hv]
/-- The sizes of the least empty trees. -/
def EmR (ps : List ProdM) (w : World) (e : Ending) (w' : World) : Prop := ∃ v, e = .returned (.agg (szV v)) ∧ EzIs ps v ∧ Kept w w'
set_option linter.unusedSimpArgs false in
set_option maxRecDepth 100000 in
set_option maxHeartbeats 4000000 in
theorem emptySizes_is (ps : List ProdM) (x0 x1 x2 : Value) (ap : Option Addr) (np cp : Nat) (w : World) (hps : ps.length = np) (hp : ProdsAt w (.slice ap np cp) ps) (hok : ∀ p ∈ ps, ProdOk p) :
    Calls Tryd.prog 85 #[.agg #[x0, x1, x2, .slice ap np cp]] w (EmR ps w) := by
  have HK1 : Hid (Kept w (w.alloc (.cells #[x0, x1, x2, .slice ap np cp] 26))) := (Kept.refl w).alloc _ _
  have HB1 := hide1 (SBox.new w x0 x1 x2 (.slice ap np cp))
  obtain ⟨W1, hW1⟩ : ∃ W1, w.alloc (.cells #[x0, x1, x2, .slice ap np cp] 26) = W1 := ⟨_, rfl⟩
  have hs1 : W1.heap.size = w.heap.size + 1 := by rw [← hW1, World.size_alloc]
  rw [hW1] at HK1 HB1
  have HK2 : Hid (Kept W1 (W1.alloc (.cells Tryd.zeroCells140 140))) := (Kept.refl _).alloc _ _
  have HB2 := hide1 (sz_zero W1)
  obtain ⟨W2, hW2⟩ : ∃ W2, W1.alloc (.cells Tryd.zeroCells140 140) = W2 := ⟨_, rfl⟩
  have hs2 : W2.heap.size = w.heap.size + 1 + 1 := by rw [← hW2, World.size_alloc, hs1]
  rw [hW2] at HK2 HB2
  have HK3 : Hid (Kept W2 (W2.alloc (.cells Tryd.zeroCells140 140))) := (Kept.refl _).alloc _ _
  have HB3 := hide1 (sz_zero W2)
  obtain ⟨W3, hW3⟩ : ∃ W3, W2.alloc (.cells Tryd.zeroCells140 140) = W3 := ⟨_, rfl⟩
  rw [hW3] at HK3 HB3
  rw [hs1] at HB2
  rw [hs2] at HB3
  have HP := hide1 hp
  have HPS := hide1 hps
  have HOK := hide1 hok
  have HW1 := hide1 hW1
  have HW2 := hide1 hW2
  have HW3 := hide1 hW3
  have HS1 := hide1 hs1
  have HS2 := hide1 hs2
  clear hp hps hok hW1 hW2 hW3 hs1 hs2
  go_enter Tryd.func85, Tryd.ntmps85
  go_upto_region 2 with fail
  rw [HW1.out, HW2.out, HW3.out]
  clear HW1 HW2 HW3
  obtain ⟨b, hb⟩ : ∃ b, w.heap.size = b := ⟨_, rfl⟩
  rw [hb] at HB1 HB2 HB3 HS1 HS2 ⊢
  have HSB := hide1 hb
  clear hb
  have HB23 := hide1 (HB2.out.keep HK3.out)
  have HB13 := hide1 (HB1.out.keep (gtrans HK2.out HK3.out))
  go_wp2_with fail
  go_loopw [5] (FiI W3 (b + 1 + 1)) (fun i _ => 128 - (intOf i).toNat)
  case atStart => exact ⟨0, rfl, by omega, sz_congr HB3.out (fun i _ => by unfold fillV; rw [if_neg (by omega)]), but_refl _ _⟩
  case round =>
    obtain ⟨j, rfl, hj, HSr, HKr⟩ := hrel
    by_cases hlt : (j : Int) < 128
    · have hj8 : j < 128 := by omega
      have c0 := HSr.out.cell hj8
      have z0 := HSr.out.free j
      have HJ8 := hide1 hj8
      clear hj8
      go_wp2_with fail
      go_roundw
      case rel =>
        have h257 := HSr.out.set 257 HJ8.out
        exact ⟨j + 1, by go_num, by have := HJ8.out; omega, sz_congr h257 (fun i _ => by unfold putV fillV; by_cases e : i = j; (rw [if_pos e, if_pos (by omega)]); rw [if_neg e]; by_cases e2 : i < j; (rw [if_pos e2, if_pos (by omega)]); rw [if_neg e2, if_neg (by omega)]), but_set HKr.out _ _⟩
      case measure => simp [intOf]; omega
    · have hj8 : j = 128 := by omega
      have HS7 : Hid (SzB wr (b + 1 + 1) fun _ => 257) := sz_congr HSr.out (fun i hi => by unfold fillV; rw [if_pos (by omega)])
      have HKW : Hid (Kept w wr) := KeptBut.up (gtrans HK1.out (gtrans HK2.out HK3.out)) (by rw [HSB.out]; omega) HKr.out
      have HB17 := hide1 (HB13.out.but HKr.out (by omega))
      have HB27 := hide1 (HB23.out.but HKr.out (by omega))
      have HC := hide1 (leastSz_is 99 #[.pointer (some ⟨b, 0, none⟩)] (fun _ => 257) (fun v => ((∀ n, v n ≤ 257) ∧ ∀ n, 128 ≤ n → v n = 257) ∧ EzSound ps v) (fun v => EzStep ps v v ps.length) wr ⟨⟨fun _ => Nat.le_refl _, fun _ _ => rfl⟩, fun n => ⟨Nat.le_refl _, fun h => absurd (show (257 : Nat) ≤ 256 from h) (by decide)⟩⟩ (enters_of Tryd.func99 (by kernel_rfl) rfl)
        (fun v wr' hR hS hk => (esStep_is wr.heap.size b v ps x0 x1 x2 ap np cp wr wr' hR.1.1 HPS.out hS (HB17.out.keep hk) (HP.out.keep HKW.out) hk (Nat.le_refl _) (Nat.ne_of_lt HB17.out.lt) HOK.out (fun v' w' => neq_sz v' v w')).mono (by
          rintro e w' ⟨v', hm, hv', he, hs, hk'⟩
          refine ⟨v', ⟨⟨hv'.1, fun n hn => (hv'.2 n hn).trans (hR.1.2 n hn)⟩, hm.sound hR.2⟩, hm.down, fun hq => ?_, he, hs, hk'⟩
          have e2 : v' = v := funext (fun n => (by
            by_cases hn : n < 128
            · exact eqV_all hq n hn
            · exact hv'.2 n (by omega)))
          rw [e2] at hm ⊢
          exact hm)))
      go_wp2_with (first
        | (refine wpList_load_row rfl 140 _ rfl (b + 1 + 1) rfl 140 (szV fun _ => 257) (0, 0) _ (by exact HS7.out) Tryd.underlying140 rfl (sz_size _) ?_)
        | (go_at_call 98; refine HC.out.mono ?_; rintro e w6 ⟨v, hr6, hf6, rfl, hk6⟩; have HR6 := hide1 hr6; have HF6 := hide1 hf6; have HK6 := hide1 hk6; have HZ6 := hide1 (HB27.out.keep hk6); clear hr6 hf6 hk6)
        | (refine wpList_store_row rfl 140 _ _ rfl (b + 1) (szV v) rfl rfl 140 (szV fun _ => 0) (by exact HZ6.out) (sz_size v) (by rw [szV_size, szV_size]) (szV_one v) ?_))
      refine bodyPost_ret (results_cell_row rfl _ _ (b + 1) 140 (szV v) (0, 0) _ rfl (setRow_heap _ _ _ _ _ _ HZ6.out) Tryd.underlying140 rfl (sz_size _)) rfl ?_
      exact ⟨v, rfl, HF6.out.done HR6.out.2, KeptBut.up (gtrans HKW.out HK6.out) (by rw [HSB.out]; omega) (setRow_butS _ (b + 1) _)⟩

end Ex
end Go.Proofs.YtooelfjceehmmaaDoor
