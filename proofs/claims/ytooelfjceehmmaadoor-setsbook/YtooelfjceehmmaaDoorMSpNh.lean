import Derived.Test.YtooelfjceehmmaaDoorMSpNg
namespace Go.Proofs.YtooelfjceehmmaaDoor
open Go.RowKit
attribute [local go_sem] Oper.semAt_some
namespace Ex

def cellN (w : World) (d i : Nat) : Nat := match w.cell? ⟨d, i, none⟩ with | some x => (intOf x).toNat | none => 0
/-- How much of a family is left out, read off the world. -/
def rdFam (d o : Nat) (w : World) : Nat := sumV (fun n => leftS (cellN w d (o + n * 2) + cellN w d (o + n * 2 + 1) * 2 ^ 64)) 128
theorem words_sum {A : Nat} (hA : A < 2 ^ 128) : wordAt A 0 + wordAt A 1 * 2 ^ 64 = A := by
  unfold wordAt
  simp only [Nat.mul_zero, Nat.pow_zero, Nat.div_one, Nat.mul_one]
  omega
theorem rdFam_is {w : World} {d o : Nat} {F : Nat → Nat} (hF : ∀ n, F n < 2 ^ 128) (h : ∀ n, n < 128 → w.cell? ⟨d, o + n * 2, none⟩ = some (.int .u64 (wordAt (F n) 0 : Nat)) ∧ w.cell? ⟨d, o + n * 2 + 1, none⟩ = some (.int .u64 (wordAt (F n) 1 : Nat))) : rdFam d o w = leftF F := by
  unfold rdFam leftF
  refine sumV_congr (fun n hn => ?_)
  obtain ⟨h0, h1⟩ := h n hn
  unfold cellN
  rw [h0, h1]
  show leftS (((wordAt (F n) 0 : Nat) : Int).toNat + ((wordAt (F n) 1 : Nat) : Int).toNat * 2 ^ 64) = _
  rw [Int.toNat_natCast, Int.toNat_natCast, words_sum (hF n)]
theorem zero_gr : Tryd.zeroCells81 = (grL (.slice none 0 0) (.slice none 0 0) (.int .i64 0) (.slice none 0 0) 0 fun _ => 0).toArray := by kernel_rfl
theorem gr_zero (w : World) : GrB (w.alloc (.cells Tryd.zeroCells81 81)) w.heap.size (.slice none 0 0) (.slice none 0 0) (.int .i64 0) (.slice none 0 0) 0 fun _ => 0 := by
  rw [zero_gr]
  exact Blk.new w _ _
theorem gr_one {x0 x1 x2 x3 : Value} {E : Nat} {F : Nat → Nat} (h : x0.oneCell' = true ∧ x1.oneCell' = true ∧ x2.oneCell' = true ∧ x3.oneCell' = true) : (grL x0 x1 x2 x3 E F).toArray.all (·.oneCell') = true := by
  rw [Array.all_eq_true_iff_forall_mem]
  intro x hx
  have hx : x ∈ grL x0 x1 x2 x3 E F := by simpa using hx
  unfold grL at hx
  rcases List.mem_append.1 hx with hx | hx
  · simp only [List.mem_cons, List.not_mem_nil, or_false] at hx
    rcases hx with rfl | rfl | rfl | rfl | rfl | rfl
    · exact h.1
    · exact h.2.1
    · exact h.2.2.1
    · exact h.2.2.2
    · rfl
    · rfl
  · exact famL_one F x hx
theorem gr_sizes (x0 x1 x2 x3 : Value) (E : Nat) (F : Nat → Nat) (y0 y1 y2 y3 : Value) (E' : Nat) (F' : Nat → Nat) : (grL x0 x1 x2 x3 E F).toArray.size = (grL y0 y1 y2 y3 E' F').toArray.size := by rw [List.size_toArray, List.size_toArray, grL_len, grL_len]
theorem gr_two (w : World) (x0 x1 x2 x3 : Value) (E : Nat) (F : Nat → Nat) : GrB ((w.alloc (.cells (grL x0 x1 x2 x3 E F).toArray 81)).alloc (.cells Tryd.zeroCells81 81)) w.heap.size x0 x1 x2 x3 E F ∧ GrB ((w.alloc (.cells (grL x0 x1 x2 x3 E F).toArray 81)).alloc (.cells Tryd.zeroCells81 81)) (w.heap.size + 1) (.slice none 0 0) (.slice none 0 0) (.int .i64 0) (.slice none 0 0) 0 (fun _ => 0) ∧ Kept w ((w.alloc (.cells (grL x0 x1 x2 x3 E F).toArray 81)).alloc (.cells Tryd.zeroCells81 81)) := by
  refine ⟨(Blk.new w _ _).keep ((Kept.refl _).alloc _ _), ?_, ((Kept.refl w).alloc _ _).alloc _ _⟩
  have h := gr_zero (w.alloc (.cells (grL x0 x1 x2 x3 E F).toArray 81))
  rw [World.size_alloc] at h
  exact h
def LgI (x0 x1 x2 x3 : Value) (E : Nat) (R : (Nat → Nat) → Prop) (w : World) (wr : World) : Prop := ∃ F, Hid (R F) ∧ Hid (GrB wr w.heap.size x0 x1 x2 x3 E F) ∧ Hid (GrB wr (w.heap.size + 1) (.slice none 0 0) (.slice none 0 0) (.int .i64 0) (.slice none 0 0) 0 fun _ => 0) ∧ Hid (Kept w wr)
def LgR (x0 x1 x2 x3 : Value) (E : Nat) (R Fin : (Nat → Nat) → Prop) (w : World) (e : Ending) (w' : World) : Prop := ∃ F, R F ∧ Fin F ∧ e = .returned (.agg (grL x0 x1 x2 x3 E F).toArray) ∧ Kept w w'
set_option linter.unusedSimpArgs false in
set_option maxRecDepth 100000 in
set_option maxHeartbeats 4000000 in
theorem leastGr_is (f : Nat) (bs : Array Value) (x0 x1 x2 x3 : Value) (E : Nat) (F0 : Nat → Nat) (R Fin : (Nat → Nat) → Prop) (w : World) (h1c : x0.oneCell' = true ∧ x1.oneCell' = true ∧ x2.oneCell' = true ∧ x3.oneCell' = true) (h0 : R F0) (hR : ∀ F, R F → ∀ n, F n < 2 ^ 128) (ef : ∀ args w, (callFunc f args).run Tryd.prog w = .ok (.enter f args) w)
    (hf : ∀ F wr, R F → GrB wr w.heap.size x0 x1 x2 x3 E F → Kept w wr → Calls Tryd.prog f (#[.pointer (some ⟨w.heap.size, 0, none⟩)] ++ bs) wr fun e w' => ∃ F', R F' ∧ (∀ x, famS F x → famS F' x) ∧ (eqV F' F = true → Fin F') ∧ e = .returned (.bool (!eqV F' F)) ∧ GrB w' w.heap.size x0 x1 x2 x3 E F' ∧ KeptBut w.heap.size wr w') :
    Calls Tryd.prog 59 #[.agg (grL x0 x1 x2 x3 E F0).toArray, .func (.func f) #[] bs] w (LgR x0 x1 x2 x3 E R Fin w) := by
  have H0 := hide1 h0
  have HF := hide1 hf
  have HR := hide1 hR
  have H1C := hide1 h1c
  obtain ⟨h1, h2, h3⟩ := gr_two w x0 x1 x2 x3 E F0
  have HS1 := hide1 h1
  have HS2 := hide1 h2
  have HK := hide1 h3
  clear h0 hf h1 h2 h3 hR h1c
  go_enter Tryd.func59, Tryd.ntmps59
  go_upto_region 1 with fail
  obtain ⟨W, hW⟩ : ∃ W, (w.alloc (.cells (grL x0 x1 x2 x3 E F0).toArray 81)).alloc (.cells Tryd.zeroCells81 81) = W := ⟨_, rfl⟩
  rw [hW] at HS1 HS2 HK ⊢
  clear hW
  go_loopw [] (LgI x0 x1 x2 x3 E R w) (fun wr => rdFam w.heap.size 6 wr)
  case atStart => exact ⟨F0, H0, HS1, HS2, HK⟩
  case round =>
    obtain ⟨F, HA, HSA, HSZ, HKr⟩ := hrel
    have HC := hide1 (HF.out F wr HA.out HSA.out HKr.out)
    have hef := ef
    go_wp2_with fail
    refine HC.out.mono ?_
    rintro e w6 ⟨F', hr6, hu6, hf6, rfl, hs6, hk6⟩
    have HR6 := hide1 hr6
    have HU6 := hide1 hu6
    have HF6 := hide1 hf6
    have HS6 := hide1 hs6
    have HZ6 := hide1 (HSZ.out.but hk6 (by omega))
    have HKK := hide1 (KeptBut.up HKr.out (Nat.le_refl _) hk6)
    clear hr6 hu6 hf6 hs6 hk6
    cases hne : eqV F' F with
    | true =>
      have HFA := hide1 (HF6.out hne)
      clear hne
      go_wp2_with (first
        | (refine wpList_load_row rfl 81 _ rfl w.heap.size rfl 81 (grL x0 x1 x2 x3 E F').toArray (0, 0) _ (by exact HS6.out) Tryd.underlying81 rfl (gr_size x0 x1 x2 x3 E F') ?_)
        | (refine wpList_store_row rfl 81 _ _ rfl (w.heap.size + 1) (grL x0 x1 x2 x3 E F').toArray rfl rfl 81 (grL (.slice none 0 0) (.slice none 0 0) (.int .i64 0) (.slice none 0 0) 0 fun _ => 0).toArray (by exact HZ6.out) (gr_size x0 x1 x2 x3 E F') (gr_sizes _ _ _ _ _ _ _ _ _ _ _ _) (gr_one H1C.out) ?_))
      refine bodyPost_ret (results_cell_row rfl _ _ (w.heap.size + 1) 81 (grL x0 x1 x2 x3 E F').toArray (0, 0) _ rfl (setRow_heap _ _ _ _ _ _ HZ6.out) Tryd.underlying81 rfl (gr_size x0 x1 x2 x3 E F')) rfl ?_
      exact ⟨F', HR6.out, HFA.out, rfl, KeptBut.up HKK.out (by omega) (setRow_butS _ (w.heap.size + 1) _)⟩
    | false =>
      have HNE := hide1 hne
      clear hne
      go_wp2_with fail
      go_roundw
      case rel => exact ⟨F', HR6, HS6, HZ6, HKK⟩
      case measure =>
        rw [rdFam_is (HR.out _ HR6.out) (fun n hn => HS6.out.fam hn), rdFam_is (HR.out _ HA.out) (fun n hn => HSA.out.fam hn)]
        exact leftF_lt (HR.out _ HA.out) (HR.out _ HR6.out) HU6.out HNE.out
theorem exec_build {P : Program} (ρ : Operand → Value) (o : Oper) (t : TypeId) (parts : Array (Nat × Operand)) (l : List (Nat × Value)) (cells : Array Value) (w : World) (ho : o.op = .build t parts) (hl : (parts.map fun (i, x) => (i, ρ x)).toList = l) (hc : P.built t l = some cells) : (execOp ρ o).run P w = .ok (.value (.agg cells)) w := by
  subst hl
  unfold execOp
  simp only [ho, Sem.run_bind, run_build w t _ cells hc, Result.andThen_ok]
  rfl
theorem built_gr (x0 x1 x2 x3 : Value) (E : Nat) : Tryd.prog.built 81 [(0, .agg #[x0, x1, x2, x3]), (1, .agg #[.int .u64 (wordAt E 0 : Nat), .int .u64 (wordAt E 1 : Nat)])] = some (grL x0 x1 x2 x3 E fun _ => 0).toArray := by kernel_rfl
/-- A spec with its empty names and its First. -/
def NgR (nl : Nat) (ps : List ProdM) (x0 x1 x2 x3 : Value) (w : World) (e : Ending) (w' : World) : Prop := ∃ (E : Nat) (F : Nat → Nat), e = .returned (.agg (grL x0 x1 x2 x3 E F).toArray) ∧ (∀ n, E.testBit n = true ↔ Mk false ps n) ∧ (∀ n, F n < 2 ^ 128) ∧ (∀ x, famS F x ↔ Fi nl (Mk false ps) ps x) ∧ Kept w w'
theorem gr_start (w : World) (x0 x1 x2 x3 : Value) : SBox ((w.alloc (.cells #[x0, x1, x2, x3] 26)).alloc (.cells Tryd.zeroCells81 81)) w.heap.size x0 x1 x2 x3 ∧ GrB ((w.alloc (.cells #[x0, x1, x2, x3] 26)).alloc (.cells Tryd.zeroCells81 81)) (w.heap.size + 1) (.slice none 0 0) (.slice none 0 0) (.int .i64 0) (.slice none 0 0) 0 (fun _ => 0) ∧ Kept w ((w.alloc (.cells #[x0, x1, x2, x3] 26)).alloc (.cells Tryd.zeroCells81 81)) := by
  refine ⟨(SBox.new w x0 x1 x2 x3).keep ((Kept.refl _).alloc _ _), ?_, ((Kept.refl w).alloc _ _).alloc _ _⟩
  have h := gr_zero (w.alloc (.cells #[x0, x1, x2, x3] 26))
  rw [World.size_alloc] at h
  exact h
set_option linter.unusedSimpArgs false in
set_option maxRecDepth 100000 in
set_option maxHeartbeats 4000000 in
theorem gNew_is (nl : Nat) (ps : List ProdM) (al an ap : Option Addr) (cl nn cn np cp : Nat) (st : Int) (w : World) (hnl : nl < 128) (hps : ps.length = np) (hp : ProdsAt w (.slice ap np cp) ps) (hok : ∀ p ∈ ps, ProdGood p) :
    Calls Tryd.prog 30 #[.agg #[.slice al nl cl, .slice an nn cn, .int .i64 st, .slice ap np cp]] w (NgR nl ps (.slice al nl cl) (.slice an nn cn) (.int .i64 st) (.slice ap np cp) w) := by
  obtain ⟨h1, h2, h3⟩ := gr_start w (.slice al nl cl) (.slice an nn cn) (.int .i64 st) (.slice ap np cp)
  have HB1 := hide1 h1
  have HB2 := hide1 h2
  have HKW := hide1 h3
  have HP := hide1 hp
  have HPS := hide1 hps
  have HOK := hide1 hok
  have HNL := hide1 hnl
  clear hp hps hok hnl h1 h2 h3
  go_enter Tryd.func30, Tryd.ntmps30
  go_upto_region 1 with fail
  obtain ⟨W2, hW2⟩ : ∃ W2, (w.alloc (.cells #[.slice al nl cl, .slice an nn cn, .int .i64 st, .slice ap np cp] 26)).alloc (.cells Tryd.zeroCells81 81) = W2 := ⟨_, rfl⟩
  rw [hW2] at HB1 HB2 HKW ⊢
  clear hW2
  obtain ⟨b, hb⟩ : ∃ b, w.heap.size = b := ⟨_, rfl⟩
  rw [hb] at HB1 HB2 ⊢
  have HB := hide1 hb
  clear hb
  have HC : Hid (∀ E W3, Kept W2 W3 → Calls Tryd.prog 59 #[.agg (grL (.slice al nl cl) (.slice an nn cn) (.int .i64 st) (.slice ap np cp) E fun _ => 0).toArray, .func (.func 60) #[] #[.pointer (some ⟨b, 0, none⟩)]] W3 (LgR (.slice al nl cl) (.slice an nn cn) (.int .i64 st) (.slice ap np cp) E (fun F => ((∀ n, F n < 2 ^ 128) ∧ ∀ n, 128 ≤ n → F n = 0) ∧ ∀ x, famS F x → Fi nl (fun n => E.testBit n = true) ps x) (fun F => LfStep (fun _ => False) (fun i => i < ps.length) (FiG nl (fun n => E.testBit n = true) ps) (famS F) (famS F) (fun i => i < ps.length)) W3)) := fun E W3 hk3 =>
    leastGr_is 60 #[.pointer (some ⟨b, 0, none⟩)] _ _ _ _ E (fun _ => 0) _ _ W3 ⟨rfl, rfl, rfl, rfl⟩ ⟨⟨fun _ => Nat.two_pow_pos 128, fun _ _ => rfl⟩, fun x hx => by unfold famS at hx; simp at hx⟩ (fun F h => h.1.1) (enters_of Tryd.func60 (by kernel_rfl) rfl)
      (fun F wr hR hS hk => (gStep_is W3.heap.size b E nl F ps al cl _ st ap np cp W3 wr HNL.out hR.1.1 HPS.out hS ((HB1.out.keep hk3).keep hk) (HP.out.keep (gtrans HKW.out hk3)) hk (Nat.le_refl _) (Nat.ne_of_lt (HB1.out.keep hk3).lt) HOK.out).mono (by
        rintro e w' ⟨F', hm, hv', he, hs, hk'⟩
        refine ⟨F', ⟨⟨hv'.1, fun n hn => (hv'.2 n hn).trans (hR.1.2 n hn)⟩, hm.sound hR.2⟩, hm.up, fun hq => ?_, he, hs, hk'⟩
        have e2 : F' = F := funext (fun n => (by
          by_cases hn : n < 128
          · exact eqV_all hq n hn
          · exact hv'.2 n (by omega)))
        rw [e2] at hm ⊢
        exact hm))
  refine wp_region_held_drew (S := fun X => KeptBut (b + 1) W2 X) (by kernel_rfl) (but_refl (b + 1) W2) (fun hHeld => ?_)
  refine wpAnyH_take (i := 0) (v := .agg #[.slice al nl cl, .slice an nn cn, .int .i64 st, .slice ap np cp]) rfl (by kernel_rfl) (by kernel_rfl) (by kernel_rfl) (fun _ _ _ h => h) (Or.inl ⟨by rfl, fun w' hSw => ?_⟩) (by with_reducible assumption) ?_
  · obtain ⟨s0, s1, s2, s3⟩ := (HB1.out.but hSw (by omega)).facts
    clear hSw
    go_simp
  try simp only [Act.put, List.setIfInBounds_toArray, List.set_cons_zero, List.set_cons_succ]
  refine wpAnyH_take (i := 1) (v := .agg #[.slice al nl cl, .slice an nn cn, .int .i64 st, .slice ap np cp]) rfl (by kernel_rfl) (by kernel_rfl) (by kernel_rfl) (fun _ _ _ h => h) (Or.inl ⟨by rfl, fun w' hSw => ?_⟩) (by with_reducible assumption) ?_
  · obtain ⟨s0, s1, s2, s3⟩ := (HB1.out.but hSw (by omega)).facts
    clear hSw
    go_simp
  try simp only [Act.put, List.setIfInBounds_toArray, List.set_cons_zero, List.set_cons_succ]
  refine wpAnyH_take (i := 4) (v := .func (.func 60) #[] #[.pointer (some ⟨b, 0, none⟩)]) rfl (by kernel_rfl) (by kernel_rfl) (by kernel_rfl) (fun _ _ _ h => h) (Or.inl ⟨by rfl, fun w' hSw => ?_⟩) (by with_reducible assumption) ?_
  · clear hSw
    go_simp
  try simp only [Act.put, List.setIfInBounds_toArray, List.set_cons_zero, List.set_cons_succ]
  refine wpAnyH_ready (rs := [2]) (by kernel_rfl) (by simp) ?_
  refine AllReadyH.cons (i := 2) rfl (fun K hK => ?_) AllReadyH.nil
  go_simp
  go_wp2_with (go_at_call 43; refine (making_is false ps _ _ _ ap np cp _ HPS.out (HP.out.keep (gtrans HKW.out (drew_kept W2))) (fun p hp => ⟨(HOK.out p hp).1, fun x hx => ((HOK.out p hp).2 x hx).1⟩)).mono ?_; rintro e w6 ⟨E, rfl, ha6, hb6, hk6⟩; rw [setS_eq]; have HE6 := hide1 ha6; have HK6 := hide1 (gtrans (drew_kept W2) hk6); clear ha6 hb6 hk6)
  refine hK.out _ _ (HK6.out.but (b + 1)) (fun hHeld2 => ?_)
  clear hK K hHeld
  have hHeld := hHeld2
  clear hHeld2
  try simp only [Act.put, List.setIfInBounds_toArray, List.set_cons_zero, List.set_cons_succ]
  refine wpAnyH_take (i := 3) (v := .agg (grL (.slice al nl cl) (.slice an nn cn) (.int .i64 st) (.slice ap np cp) E (fun _ => 0)).toArray) rfl (by kernel_rfl) (by kernel_rfl) (by kernel_rfl) (fun _ _ _ h => h) (Or.inl ⟨by rfl, fun w' _ => ?_⟩) (by with_reducible assumption) ?_
  · refine exec_build _ _ 81 _ _ _ w' rfl ?_ (built_gr (.slice al nl cl) (.slice an nn cn) (.int .i64 st) (.slice ap np cp) E)
    kernel_rfl
  try simp only [Act.put, List.setIfInBounds_toArray, List.set_cons_zero, List.set_cons_succ]
  refine wpAnyH_ready (rs := [5]) (by kernel_rfl) (by simp) ?_
  refine AllReadyH.cons (i := 5) rfl (fun K hK => ?_) AllReadyH.nil
  go_simp
  go_wp2_with (go_at_call 59; refine (HC.out E _ HK6.out).mono ?_; rintro e w7 ⟨F, hr6, hf6, rfl, hk7⟩; have HR6 := hide1 hr6; have HF6 := hide1 hf6; have HK7 := hide1 (gtrans HK6.out hk7); clear hr6 hf6 hk7)
  refine hK.out _ _ (HK7.out.but (b + 1)) (fun hHeld2 => ?_)
  clear hK K hHeld
  have hHeld := hHeld2
  clear hHeld2
  try simp only [Act.put, List.setIfInBounds_toArray, List.set_cons_zero, List.set_cons_succ]
  refine wpAnyH_ready (rs := [6]) (by kernel_rfl) (by simp) ?_
  refine AllReadyH.cons (i := 6) rfl (fun K hK => ?_) AllReadyH.nil
  have HZ7 := hide1 (HB2.out.keep HK7.out)
  refine if_yes (by kernel_rfl) ?_
  refine wp_store_row 81 _ _ rfl (b + 1) (grL (.slice al nl cl) (.slice an nn cn) (.int .i64 st) (.slice ap np cp) E F).toArray rfl rfl 81 (grL (.slice none 0 0) (.slice none 0 0) (.int .i64 0) (.slice none 0 0) 0 fun _ => 0).toArray HZ7.out (gr_size _ _ _ _ E F) (gr_sizes _ _ _ _ _ _ _ _ _ _ _ _) (gr_one ⟨rfl, rfl, rfl, rfl⟩) ?_
  have HBU : Hid (KeptBut (b + 1) w7 (w7.setRow (b + 1) (grL (.slice al nl cl) (.slice an nn cn) (.int .i64 st) (.slice ap np cp) E F).toArray)) := setRow_butS _ _ _
  have HK9 := hide1 ((HK7.out.but (b + 1)).trans HBU.out)
  have HZ9 : Hid (GrB (w7.setRow (b + 1) (grL (.slice al nl cl) (.slice an nn cn) (.int .i64 st) (.slice ap np cp) E F).toArray) (b + 1) (.slice al nl cl) (.slice an nn cn) (.int .i64 st) (.slice ap np cp) E F) := setRow_heap _ _ _ _ _ _ HZ7.out
  refine hK.out _ _ HK9.out (fun hHeld2 => ?_)
  clear hK K hHeld
  have hHeld := hHeld2
  clear hHeld2
  try simp only [Act.put, List.setIfInBounds_toArray, List.set_cons_zero, List.set_cons_succ]
  refine wpAnyH_done (by kernel_rfl) ?_ _
  clear hHeld
  go_wp2_with fail
  refine bodyPost_ret (results_cell_row rfl _ _ (b + 1) 81 (grL (.slice al nl cl) (.slice an nn cn) (.int .i64 st) (.slice ap np cp) E F).toArray (0, 0) _ rfl HZ9.out Tryd.underlying81 rfl (gr_size _ _ _ _ E F)) rfl ?_
  have hE : (fun n => E.testBit n = true) = Mk false ps := funext (fun n => propext (HE6.out n))
  refine ⟨E, F, rfl, HE6.out, HR6.out.1.1, fun x => ?_, KeptBut.up HKW.out (by rw [HB.out]; omega) HK9.out⟩
  have hd := HF6.out.done (fun _ h => h) (fun _ h => h.elim) HR6.out.2 x
  rw [hE] at hd
  exact hd

end Ex
end Go.Proofs.YtooelfjceehmmaaDoor
