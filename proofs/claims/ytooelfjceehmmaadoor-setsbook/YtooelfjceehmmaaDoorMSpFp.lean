import Derived.Test.YtooelfjceehmmaaDoorMSpFo
namespace Go.Proofs.YtooelfjceehmmaaDoor
open Go.RowKit
attribute [local go_sem] Oper.semAt_some
namespace Ex

theorem fam_two (w : World) (F : Nat → Nat) : FaB ((w.alloc (.cells (famL F).toArray 79)).alloc (.cells Tryd.zeroCells79 79)) w.heap.size F ∧ FaB ((w.alloc (.cells (famL F).toArray 79)).alloc (.cells Tryd.zeroCells79 79)) (w.heap.size + 1) (fun _ => 0) ∧ Kept w ((w.alloc (.cells (famL F).toArray 79)).alloc (.cells Tryd.zeroCells79 79)) := by
  refine ⟨(Blk.new w _ _).keep ((Kept.refl _).alloc _ _), ?_, ((Kept.refl w).alloc _ _).alloc _ _⟩
  have h := fam_zero (w.alloc (.cells (famL F).toArray 79))
  rw [World.size_alloc] at h
  exact h
theorem fam_sizes (F F' : Nat → Nat) : (famL F).toArray.size = (famL F').toArray.size := by rw [List.size_toArray, List.size_toArray, famL_len, famL_len]
def LfmI (R : (Nat → Nat) → Prop) (w : World) (wr : World) : Prop := ∃ F, Hid (R F) ∧ Hid (FaB wr w.heap.size F) ∧ Hid (FaB wr (w.heap.size + 1) fun _ => 0) ∧ Hid (Kept w wr)
def LfmR (R Fin : (Nat → Nat) → Prop) (w : World) (e : Ending) (w' : World) : Prop := ∃ F, R F ∧ Fin F ∧ e = .returned (.agg (famL F).toArray) ∧ Kept w w'
set_option linter.unusedSimpArgs false in
set_option maxRecDepth 100000 in
set_option maxHeartbeats 4000000 in
theorem leastFam_is (f : Nat) (bs : Array Value) (F0 : Nat → Nat) (R Fin : (Nat → Nat) → Prop) (w : World) (h0 : R F0) (hR : ∀ F, R F → ∀ n, F n < 2 ^ 128) (ef : ∀ args w, (callFunc f args).run Tryd.prog w = .ok (.enter f args) w)
    (hf : ∀ F wr, R F → FaB wr w.heap.size F → Kept w wr → Calls Tryd.prog f (#[.pointer (some ⟨w.heap.size, 0, none⟩)] ++ bs) wr fun e w' => ∃ F', R F' ∧ (∀ x, famS F x → famS F' x) ∧ (eqV F' F = true → Fin F') ∧ e = .returned (.bool (!eqV F' F)) ∧ FaB w' w.heap.size F' ∧ KeptBut w.heap.size wr w') :
    Calls Tryd.prog 78 #[.agg (famL F0).toArray, .func (.func f) #[] bs] w (LfmR R Fin w) := by
  have H0 := hide1 h0
  have HF := hide1 hf
  have HR := hide1 hR
  obtain ⟨h1, h2, h3⟩ := fam_two w F0
  have HS1 := hide1 h1
  have HS2 := hide1 h2
  have HK := hide1 h3
  clear h0 hf h1 h2 h3 hR
  go_enter Tryd.func78, Tryd.ntmps78
  go_upto_region 1 with fail
  obtain ⟨W, hW⟩ : ∃ W, (w.alloc (.cells (famL F0).toArray 79)).alloc (.cells Tryd.zeroCells79 79) = W := ⟨_, rfl⟩
  rw [hW] at HS1 HS2 HK ⊢
  clear hW
  go_loopw [] (LfmI R w) (fun wr => rdFam w.heap.size 0 wr)
  case atStart => exact ⟨F0, H0, HS1, HS2, HK⟩
  case round =>
    obtain ⟨F, HA, HSA, HSZ, HKr⟩ := hrel
    have HC := hide1 (HF.out F wr HA.out HSA.out HKr.out)
    have hef := ef
    go_wp2_with fail
    refine HC.out.mono ?_
    rintro e w6 ⟨F', hr6, hu6, hf6, rfl, hs6, hk6⟩
    have HR6 := hide1 hr6
    have HU6 := hide1 hu6
    have HF6 := hide1 hf6
    have HS6 := hide1 hs6
    have HZ6 := hide1 (HSZ.out.but hk6 (by omega))
    have HKK := hide1 (KeptBut.up HKr.out (Nat.le_refl _) hk6)
    clear hr6 hu6 hf6 hs6 hk6
    cases hne : eqV F' F with
    | true =>
      have HFA := hide1 (HF6.out hne)
      clear hne
      go_wp2_with (first
        | (refine wpList_load_row rfl 79 _ rfl w.heap.size rfl 79 (famL F').toArray (0, 0) _ (by exact HS6.out) Tryd.underlying79 rfl (fam_sizeA F') ?_)
        | (refine wpList_store_row rfl 79 _ _ rfl (w.heap.size + 1) (famL F').toArray rfl rfl 79 (famL fun _ => 0).toArray (by exact HZ6.out) (fam_sizeA F') (fam_sizes _ _) (famL_all F') ?_))
      refine bodyPost_ret (results_cell_row rfl _ _ (w.heap.size + 1) 79 (famL F').toArray (0, 0) _ rfl (setRow_heap _ _ _ _ _ _ HZ6.out) Tryd.underlying79 rfl (fam_sizeA F')) rfl ?_
      exact ⟨F', HR6.out, HFA.out, rfl, KeptBut.up HKK.out (by omega) (setRow_butS _ (w.heap.size + 1) _)⟩
    | false =>
      have HNE := hide1 hne
      clear hne
      go_wp2_with fail
      go_roundw
      case rel => exact ⟨F', HR6, HS6, HZ6, HKK⟩
      case measure =>
        rw [rdFam_is (HR.out _ HR6.out) (fun n hn => by rw [Nat.zero_add]; exact HS6.out.cells hn), rdFam_is (HR.out _ HA.out) (fun n hn => by rw [Nat.zero_add]; exact HSA.out.cells hn)]
        exact leftF_lt (HR.out _ HA.out) (HR.out _ HR6.out) HU6.out HNE.out
set_option linter.unusedSimpArgs false in
set_option maxRecDepth 100000 in
set_option maxHeartbeats 2000000 in
theorem sEnd_is (al : Option Addr) (nl cl t : Nat) (ht : nl + 1 = t) (hn : nl ≤ 17592186044416) (x1 x2 x3 : Value) (w : World) : Calls Tryd.prog 57 #[.agg #[.slice al nl cl, x1, x2, x3]] w fun e w' => e = .returned (.int .i64 (t : Int)) ∧ Kept w w' := by
  have gn : (nl : Int) ≤ 17592186044416 := by omega
  have HT : Hid (((nl : Int) + 1) = (t : Int)) := by show _ = _; omega
  clear ht
  go_enter Tryd.func57, Tryd.ntmps57
  go_wp2
  go_ret
  exact ⟨by rw [HT.out]; rfl, (Kept.refl w).alloc _ _⟩
theorem fo_start (w : World) (v : Value) : OneB (((w.alloc (.cells #[v] 114)).alloc (.cells Tryd.zeroCells79 79)).alloc (.cells Tryd.zeroCells79 79)) w.heap.size v 114 ∧ FaB (((w.alloc (.cells #[v] 114)).alloc (.cells Tryd.zeroCells79 79)).alloc (.cells Tryd.zeroCells79 79)) (w.heap.size + 1) (fun _ => 0) ∧ FaB (((w.alloc (.cells #[v] 114)).alloc (.cells Tryd.zeroCells79 79)).alloc (.cells Tryd.zeroCells79 79)) (w.heap.size + 1 + 1) (fun _ => 0) ∧ Kept w (((w.alloc (.cells #[v] 114)).alloc (.cells Tryd.zeroCells79 79)).alloc (.cells Tryd.zeroCells79 79)) := by
  have h1 := fam_zero (w.alloc (.cells #[v] 114))
  have h2 := fam_zero ((w.alloc (.cells #[v] 114)).alloc (.cells Tryd.zeroCells79 79))
  rw [World.size_alloc] at h1
  rw [World.size_alloc, World.size_alloc] at h2
  exact ⟨((OneB.new w v 114).keep ((Kept.refl _).alloc _ _)).keep ((Kept.refl _).alloc _ _), h1.keep ((Kept.refl _).alloc _ _), h2, (((Kept.refl w).alloc _ _).alloc _ _).alloc _ _⟩
/-- What stands behind each name. -/
def FlwR (nl st E : Nat) (F : Nat → Nat) (ps : List ProdM) (w : World) (e : Ending) (w' : World) : Prop := ∃ G : Nat → Nat, e = .returned (.agg (famL G).toArray) ∧ (∀ n, G n < 2 ^ 128) ∧ (∀ x, famS G x ↔ Fo nl st (fun n => E.testBit n = true) (famS F) ps x) ∧ Kept w w'
set_option linter.unusedSimpArgs false in
set_option maxRecDepth 100000 in
set_option maxHeartbeats 4000000 in
theorem gFollow_is (gb E nl st : Nat) (F : Nat → Nat) (ps : List ProdM) (al : Option Addr) (cl : Nat) (x1 : Value) (ap : Option Addr) (np cp : Nat) (w : World) (hnl : nl < 127) (hst : st < 128) (hF : ∀ n, F n < 2 ^ 128) (hps : ps.length = np) (hg : GrB w gb (.slice al nl cl) x1 (.int .i64 (st : Int)) (.slice ap np cp) E F) (hp : ProdsAt w (.slice ap np cp) ps) (hok : ∀ p ∈ ps, ProdGood p) :
    Calls Tryd.prog 46 #[.pointer (some ⟨gb, 0, none⟩)] w (FlwR nl st E F ps w) := by
  obtain ⟨h1, h2, h3, h4⟩ := fo_start w (.pointer (some ⟨gb, 0, none⟩))
  have HB1 := hide1 h1
  have HB2 := hide1 h2
  have HB3 := hide1 h3
  have HKW := hide1 h4
  have HG := hide1 (hg.keep h4)
  have HGL := hide1 hg.lt
  have HP := hide1 hp
  have HPS := hide1 hps
  have HOK := hide1 hok
  have HNL := hide1 hnl
  have HST := hide1 hst
  have HF := hide1 hF
  have gst : (st : Int) < 128 := by omega
  obtain ⟨t, ht⟩ : ∃ t, nl + 1 = t := ⟨_, rfl⟩
  have HT := hide1 ht
  have HT8 : Hid (t < 128) := by show _ < _; omega
  clear hp hps hok hnl hst hF hg h1 h2 h3 h4 ht
  go_enter Tryd.func46, Tryd.ntmps46
  go_upto_region 2 with fail
  obtain ⟨W2, hW2⟩ : ∃ W2, ((w.alloc (.cells #[.pointer (some ⟨gb, 0, none⟩)] 114)).alloc (.cells Tryd.zeroCells79 79)).alloc (.cells Tryd.zeroCells79 79) = W2 := ⟨_, rfl⟩
  rw [hW2] at HB1 HB2 HB3 HKW HG ⊢
  clear hW2
  obtain ⟨b, hb⟩ : ∃ b, w.heap.size = b := ⟨_, rfl⟩
  rw [hb] at HB1 HB2 HB3 HGL ⊢
  have HB := hide1 hb
  clear hb
  have HGD : Hid (gb ≠ b + 1 + 1) := by have := HGL.out; show _ ≠ _; omega
  refine wp_region_held_drew (S := fun X => KeptBut (b + 1 + 1) W2 X) (by kernel_rfl) (but_refl (b + 1 + 1) W2) (fun hHeld => ?_)
  refine wpAnyH_take (i := 0) (v := .pointer (some ⟨gb, 0, none⟩)) rfl (by kernel_rfl) (by kernel_rfl) (by kernel_rfl) (fun _ _ _ h => h) (Or.inl ⟨by rfl, fun w' hSw => ?_⟩) (by with_reducible assumption) ?_
  · have s0 := (HB1.out.but hSw (by omega)).cell
    clear hSw
    go_simp
  try simp only [Act.put, List.setIfInBounds_toArray, List.set_cons_zero, List.set_cons_succ]
  refine wpAnyH_take (i := 1) (v := .pointer (some ⟨gb, 0, none⟩)) rfl (by kernel_rfl) (by kernel_rfl) (by kernel_rfl) (fun _ _ _ h => h) (Or.inl ⟨by rfl, fun w' hSw => ?_⟩) (by with_reducible assumption) ?_
  · clear hSw
    go_simp
  try simp only [Act.put, List.setIfInBounds_toArray, List.set_cons_zero, List.set_cons_succ]
  refine wpAnyH_take (i := 2) (v := .pointer (some ⟨gb, 0, none⟩)) rfl (by kernel_rfl) (by kernel_rfl) (by kernel_rfl) (fun _ _ _ h => h) (Or.inl ⟨by rfl, fun w' hSw => ?_⟩) (by with_reducible assumption) ?_
  · clear hSw
    go_simp
  try simp only [Act.put, List.setIfInBounds_toArray, List.set_cons_zero, List.set_cons_succ]
  refine wpAnyH_take (i := 3) (v := .pointer (some ⟨gb, 2, none⟩)) rfl (by kernel_rfl) (by kernel_rfl) (by kernel_rfl) (fun _ _ _ h => h) (Or.inl ⟨by rfl, fun w' hSw => ?_⟩) (by with_reducible assumption) ?_
  · clear hSw
    go_simp
  try simp only [Act.put, List.setIfInBounds_toArray, List.set_cons_zero, List.set_cons_succ]
  refine wpAnyH_take (i := 4) (v := .int .i64 (st : Int)) rfl (by kernel_rfl) (by kernel_rfl) (by kernel_rfl) (fun _ _ _ h => h) (Or.inl ⟨by rfl, fun w' hSw => ?_⟩) (by with_reducible assumption) ?_
  · obtain ⟨s0, s1, s2, s3⟩ := (HG.out.but hSw HGD.out).spec
    clear hSw
    go_simp
  try simp only [Act.put, List.setIfInBounds_toArray, List.set_cons_zero, List.set_cons_succ]
  refine wpAnyH_take (i := 5) (v := .agg #[.int .u64 0, .int .u64 0]) rfl (by kernel_rfl) (by kernel_rfl) (by kernel_rfl) (fun _ _ _ h => h) (Or.inl ⟨by rfl, fun w' hSw => ?_⟩) (by with_reducible assumption) ?_
  · clear hSw
    go_simp
  try simp only [Act.put, List.setIfInBounds_toArray, List.set_cons_zero, List.set_cons_succ]
  refine wpAnyH_take (i := 6) (v := .pointer (some ⟨gb, 0, none⟩)) rfl (by kernel_rfl) (by kernel_rfl) (by kernel_rfl) (fun _ _ _ h => h) (Or.inl ⟨by rfl, fun w' hSw => ?_⟩) (by with_reducible assumption) ?_
  · have s0 := (HB1.out.but hSw (by omega)).cell
    clear hSw
    go_simp
  try simp only [Act.put, List.setIfInBounds_toArray, List.set_cons_zero, List.set_cons_succ]
  refine wpAnyH_take (i := 7) (v := .pointer (some ⟨gb, 0, none⟩)) rfl (by kernel_rfl) (by kernel_rfl) (by kernel_rfl) (fun _ _ _ h => h) (Or.inl ⟨by rfl, fun w' hSw => ?_⟩) (by with_reducible assumption) ?_
  · clear hSw
    go_simp
  try simp only [Act.put, List.setIfInBounds_toArray, List.set_cons_zero, List.set_cons_succ]
  refine wpAnyH_take (i := 8) (v := .pointer (some ⟨gb, 0, none⟩)) rfl (by kernel_rfl) (by kernel_rfl) (by kernel_rfl) (fun _ _ _ h => h) (Or.inl ⟨by rfl, fun w' hSw => ?_⟩) (by with_reducible assumption) ?_
  · clear hSw
    go_simp
  try simp only [Act.put, List.setIfInBounds_toArray, List.set_cons_zero, List.set_cons_succ]
  refine wpAnyH_take (i := 9) (v := .agg #[.slice al nl cl, x1, .int .i64 (st : Int), .slice ap np cp]) rfl (by kernel_rfl) (by kernel_rfl) (by kernel_rfl) (fun _ _ _ h => h) (Or.inl ⟨by rfl, fun w' hSw => ?_⟩) (by with_reducible assumption) ?_
  · obtain ⟨s0, s1, s2, s3⟩ := (HG.out.but hSw HGD.out).spec
    clear hSw
    go_simp
  try simp only [Act.put, List.setIfInBounds_toArray, List.set_cons_zero, List.set_cons_succ]
  refine wpAnyH_ready (rs := [10]) (by kernel_rfl) (by simp) ?_
  refine AllReadyH.cons (i := 10) rfl (fun K hK => ?_) AllReadyH.nil
  go_simp
  go_wp2_with (go_at_call 57; refine (sEnd_is al nl cl t HT.out (by have := HNL.out; omega) x1 _ _ _).mono ?_; rintro e w6 ⟨rfl, hk6⟩; have HK6 := hide1 (gtrans (drew_kept W2) hk6); clear hk6)
  refine hK.out _ _ (HK6.out.but (b + 1 + 1)) (fun hHeld2 => ?_)
  clear hK K hHeld
  have hHeld := hHeld2
  clear hHeld2
  try simp only [Act.put, List.setIfInBounds_toArray, List.set_cons_zero, List.set_cons_succ]
  refine wpAnyH_ready (rs := [11]) (by kernel_rfl) (by simp) ?_
  refine AllReadyH.cons (i := 11) rfl (fun K hK => ?_) AllReadyH.nil
  go_simp
  go_wp2_with (go_at_call 58; refine (sWith_is 0 t HT8.out _).mono ?_; rintro e w7 ⟨rfl, hk7⟩; rw [Nat.zero_or, setS_eq]; have HK7 := hide1 (gtrans HK6.out hk7); clear hk7)
  refine hK.out _ _ (HK7.out.but (b + 1 + 1)) (fun hHeld2 => ?_)
  clear hK K hHeld
  have hHeld := hHeld2
  clear hHeld2
  try simp only [Act.put, List.setIfInBounds_toArray, List.set_cons_zero, List.set_cons_succ]
  refine wpAnyH_take (i := 12) (v := .pointer (some ⟨b + 1 + 1, st * 2, none⟩)) rfl (by kernel_rfl) (by kernel_rfl) (by kernel_rfl) (fun _ _ _ h => h) (Or.inl ⟨by rfl, fun w' hSw => ?_⟩) (by with_reducible assumption) ?_
  · clear hSw
    go_simp
  try simp only [Act.put, List.setIfInBounds_toArray, List.set_cons_zero, List.set_cons_succ]
  refine wpAnyH_ready (rs := [13]) (by kernel_rfl) (by simp) ?_
  refine AllReadyH.cons (i := 13) rfl (fun K hK => ?_) AllReadyH.nil
  have HS7 := hide1 (HB3.out.keep HK7.out)
  obtain ⟨a0, a1⟩ := HS7.out.cells HST.out
  have z0 := Blk.free HS7.out (st * 2)
  have z1 := Blk.free HS7.out (st * 2 + 1)
  go_simp
  clear a0 a1 z0 z1
  have HS8 := hide1 (HS7.out.set st (2 ^ t))
  have HK8 : Hid (KeptBut (b + 1 + 1) W2 ((w7.setCell ⟨b + 1 + 1, st * 2, none⟩ (.int .u64 (wordAt (2 ^ t) 0 : Nat))).setCell ⟨b + 1 + 1, st * 2 + 1, none⟩ (.int .u64 (wordAt (2 ^ t) 1 : Nat)))) := but_set (but_set (HK7.out.but (b + 1 + 1)) _ _) _ _
  refine hK.out _ _ HK8.out (fun hHeld2 => ?_)
  clear hK K hHeld
  have hHeld := hHeld2
  clear hHeld2
  try simp only [Act.put, List.setIfInBounds_toArray, List.set_cons_zero, List.set_cons_succ]
  refine wpAnyH_done (by kernel_rfl) ?_ _
  clear hHeld
  obtain ⟨W8, hW8⟩ : ∃ W8, (w7.setCell ⟨b + 1 + 1, st * 2, none⟩ (.int .u64 (wordAt (2 ^ t) 0 : Nat))).setCell ⟨b + 1 + 1, st * 2 + 1, none⟩ (.int .u64 (wordAt (2 ^ t) 1 : Nat)) = W8 := ⟨_, rfl⟩
  rw [hW8] at HS8 HK8 ⊢
  clear hW8
  have HB18 := hide1 (HB1.out.but HK8.out (by omega))
  have HB28 := hide1 (HB2.out.but HK8.out (by omega))
  have HG8 := hide1 (HG.out.but HK8.out HGD.out)
  have HKW8 : Hid (Kept w W8) := KeptBut.up HKW.out (by rw [HB.out]; omega) HK8.out
  have HC : Hid (Calls Tryd.prog 78 #[.agg (famL (putV (fun _ => 0) st (2 ^ t))).toArray, .func (.func 79) #[] #[.pointer (some ⟨b, 0, none⟩)]] W8 (LfmR (fun G => ((∀ n, G n < 2 ^ 128) ∧ ∀ n, 128 ≤ n → G n = 0) ∧ famS G (st, t) ∧ ∀ x, famS G x → Fo nl st (fun n => E.testBit n = true) (famS F) ps x) (fun G => FoS nl st E F ps G G (fun i => i.1 < ps.length)) W8)) := by
    have hb0 : famS (putV (fun _ => 0) st (2 ^ t)) (st, t) := by
      show (putV (fun _ => 0) st (2 ^ t) st).testBit t = true
      unfold putV
      rw [if_pos rfl]
      exact Nat.testBit_two_pow_self
    refine leastFam_is 79 #[.pointer (some ⟨b, 0, none⟩)] _ _ _ W8 ⟨⟨fun n => ?_, fun n hn => ?_⟩, hb0, fun x hx => ?_⟩ (fun G h => h.1.1) (enters_of Tryd.func79 (by kernel_rfl) rfl)
      (fun G wr hR hS hk => (fStep_is W8.heap.size b gb E nl st F G ps al cl x1 _ ⟨_, rfl⟩ ap np cp W8 wr (by have := HNL.out; omega) HF.out hR.1.1 HPS.out hS (HB18.out.keep hk) (HG8.out.keep hk) (HP.out.keep HKW8.out) hk (Nat.le_refl _) (Nat.ne_of_lt HB18.out.lt) (Nat.ne_of_lt HG8.out.lt) HOK.out).mono (by
        rintro e w' ⟨G', hm, hv', he, hs, hk'⟩
        refine ⟨G', ⟨⟨hv'.1, fun n hn => (hv'.2 n hn).trans (hR.1.2 n hn)⟩, hm.up _ hR.2.1, hm.sound hR.2.2⟩, hm.up, fun hq => ?_, he, hs, hk'⟩
        have e2 : G' = G := funext (fun n => (by
          by_cases hn : n < 128
          · exact eqV_all hq n hn
          · exact hv'.2 n (by omega)))
        rw [e2] at hm ⊢
        exact hm))
    · unfold putV
      split
      · exact Nat.pow_lt_pow_right (by decide) HT8.out
      · exact Nat.two_pow_pos 128
    · unfold putV
      rw [if_neg (by have := HST.out; omega)]
    · obtain ⟨x1, x2⟩ := x
      have hx : (putV (fun _ => 0) st (2 ^ t) x1).testBit x2 = true := hx
      unfold putV at hx
      split at hx
      · rename_i e1
        have e2 : x2 = t := by
          have := Nat.testBit_two_pow (n := t) (m := x2)
          rw [hx] at this
          have := of_decide_eq_true this.symm
          omega
        rw [e1, e2, ← HT.out]
        exact (lf_closed (fo_up _ _ _ _)).1 _ rfl
      · simp at hx
  go_wp2_with (first
    | (refine wpList_load_row rfl 79 _ rfl (b + 1 + 1) rfl 79 (famL (putV (fun _ => 0) st (2 ^ t))).toArray (0, 0) _ (by exact HS8.out) Tryd.underlying79 rfl (fam_sizeA _) ?_)
    | (go_at_call 78; refine HC.out.mono ?_; rintro e w9 ⟨G, hr6, hf6, rfl, hk9⟩; have HR6 := hide1 hr6; have HF6 := hide1 hf6; have HK9 := hide1 hk9; have HZ9 := hide1 (HB28.out.keep hk9); clear hr6 hf6 hk9)
    | (refine wpList_store_row rfl 79 _ _ rfl (b + 1) (famL G).toArray rfl rfl 79 (famL fun _ => 0).toArray (by exact HZ9.out) (fam_sizeA G) (fam_sizes _ _) (famL_all G) ?_))
  refine bodyPost_ret (results_cell_row rfl _ _ (b + 1) 79 (famL G).toArray (0, 0) _ rfl (setRow_heap _ _ _ _ _ _ HZ9.out) Tryd.underlying79 rfl (fam_sizeA G)) rfl ?_
  refine ⟨G, rfl, HR6.out.1.1, fun x => ?_, KeptBut.up (gtrans HKW8.out HK9.out) (by rw [HB.out]; omega) (setRow_butS _ (b + 1) _)⟩
  exact HF6.out.done (fun i ⟨p, hp, _⟩ => (List.getElem?_eq_some_iff.1 hp).1) (fun x hx => by
    have hx : x = (st, nl + 1) := hx
    rw [hx, HT.out]
    exact HR6.out.2.1) HR6.out.2.2 x

end Ex
end Go.Proofs.YtooelfjceehmmaaDoor
