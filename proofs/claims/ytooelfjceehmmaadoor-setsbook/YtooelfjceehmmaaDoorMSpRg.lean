import Derived.Test.YtooelfjceehmmaaDoorMSpRe
namespace Go.Proofs.YtooelfjceehmmaaDoor
open Go.RowKit
attribute [local go_sem] Oper.semAt_some
namespace Ex

/-- What has not yet been reached, read off the world. -/
def rdReach (d : Nat) (w : World) : Nat := match w.heap[d]? with | some (.cells cs _ _) => leftS ((intOf (cs.getD 0 undef)).toNat + (intOf (cs.getD 1 undef)).toNat * 2 ^ 64) + leftS ((intOf (cs.getD 2 undef)).toNat + (intOf (cs.getD 3 undef)).toNat * 2 ^ 64) | _ => 0
theorem RcB.rd {w : World} {d A B : Nat} (h : RcB w d A B) (hA : A < 2 ^ 128) (hB : B < 2 ^ 128) : rdReach d w = leftS A + leftS B := by
  have key : ∀ {A : Nat}, A < 2 ^ 128 → ((wordAt A 0 : Nat) : Int).toNat + ((wordAt A 1 : Nat) : Int).toNat * 2 ^ 64 = A := by
    intro A hA
    rw [Int.toNat_natCast, Int.toNat_natCast]
    unfold wordAt
    simp only [Nat.mul_zero, Nat.pow_zero, Nat.div_one, Nat.mul_one]
    omega
  unfold RcB at h
  unfold rdReach
  rw [h]
  show leftS (((wordAt A 0 : Nat) : Int).toNat + ((wordAt A 1 : Nat) : Int).toNat * 2 ^ 64) + leftS (((wordAt B 0 : Nat) : Int).toNat + ((wordAt B 1 : Nat) : Int).toNat * 2 ^ 64) = _
  rw [key hA, key hB]
theorem leftS_le {A B : Nat} (h : ∀ n, A.testBit n = true → B.testBit n = true) (hA : A < 2 ^ 128) (hB : B < 2 ^ 128) : leftS B ≤ leftS A := by
  by_cases e : A = B
  · subst e; exact Nat.le_refl _
  · exact Nat.le_of_lt (leftS_lt h hA hB e)
theorem reach_size (A B : Nat) : (Tryd.prog.info? 137).map (·.size) = some (reachV A B).size := by
  show _ = some 4
  kernel_rfl
theorem RcB.fill {w : World} {d A B : Nat} (h : RcB w d A B) (A' B' : Nat) : RcB ((((w.setCell ⟨d, 0, none⟩ (.int .u64 (wordAt A' 0 : Nat))).setCell ⟨d, 1, none⟩ (.int .u64 (wordAt A' 1 : Nat))).setCell ⟨d, 2, none⟩ (.int .u64 (wordAt B' 0 : Nat))).setCell ⟨d, 3, none⟩ (.int .u64 (wordAt B' 1 : Nat))) d A' B' := (h.setN A').setT B'
theorem reach_two (w : World) (A B : Nat) : RcB ((w.alloc (.cells (reachV A B) 137)).alloc (.cells #[.int .u64 0, .int .u64 0, .int .u64 0, .int .u64 0] 137)) w.heap.size A B ∧ RcB ((w.alloc (.cells (reachV A B) 137)).alloc (.cells #[.int .u64 0, .int .u64 0, .int .u64 0, .int .u64 0] 137)) (w.heap.size + 1) 0 0 ∧ Kept w ((w.alloc (.cells (reachV A B) 137)).alloc (.cells #[.int .u64 0, .int .u64 0, .int .u64 0, .int .u64 0] 137)) := by
  refine ⟨(RcB.new w A B).keep ((Kept.refl _).alloc _ _), ?_, ((Kept.refl w).alloc _ _).alloc _ _⟩
  have h := heap_alloc_new (w.alloc (.cells (reachV A B) 137)) (.cells #[.int .u64 0, .int .u64 0, .int .u64 0, .int .u64 0] 137)
  rw [World.size_alloc] at h
  exact h
def LrI (R : Nat → Nat → Prop) (w : World) (wr : World) : Prop := ∃ A B, Hid (R A B) ∧ Hid (RcB wr w.heap.size A B) ∧ Hid (RcB wr (w.heap.size + 1) 0 0) ∧ Hid (Kept w wr)
def LrR (R Fin : Nat → Nat → Prop) (w : World) (e : Ending) (w' : World) : Prop := ∃ A B, R A B ∧ Fin A B ∧ e = .returned (.agg (reachV A B)) ∧ Kept w w'
set_option linter.unusedSimpArgs false in
set_option maxRecDepth 100000 in
set_option maxHeartbeats 4000000 in
theorem leastReach_is (f : Nat) (bs : Array Value) (A0 B0 : Nat) (R Fin : Nat → Nat → Prop) (w : World) (h0 : R A0 B0) (hR : ∀ A B, R A B → A < 2 ^ 128 ∧ B < 2 ^ 128) (ef : ∀ args w, (callFunc f args).run Tryd.prog w = .ok (.enter f args) w)
    (hf : ∀ A B wr, R A B → RcB wr w.heap.size A B → Kept w wr → Calls Tryd.prog f (#[.pointer (some ⟨w.heap.size, 0, none⟩)] ++ bs) wr fun e w' => ∃ A' B', R A' B' ∧ ((∀ n, A.testBit n = true → A'.testBit n = true) ∧ ∀ n, B.testBit n = true → B'.testBit n = true) ∧ (A' = A → B' = B → Fin A B) ∧ e = .returned (.bool (!(A' == A && B' == B))) ∧ RcB w' w.heap.size A' B' ∧ KeptBut w.heap.size wr w') :
    Calls Tryd.prog 95 #[.agg (reachV A0 B0), .func (.func f) #[] bs] w (LrR R Fin w) := by
  have H0 := hide1 h0
  have HR := hide1 hR
  have HF := hide1 hf
  obtain ⟨h1, h2, h3⟩ := reach_two w A0 B0
  have HS1 := hide1 h1
  have HS2 := hide1 h2
  have HK := hide1 h3
  clear h0 hR hf h1 h2 h3
  go_enter Tryd.func95, Tryd.ntmps95
  go_upto_region 1 with fail
  go_loopw [] (LrI R w) (fun wr => rdReach w.heap.size wr)
  case atStart => exact ⟨A0, B0, H0, HS1, HS2, HK⟩
  case round =>
    obtain ⟨A, B, HA, HSA, HSZ, HKr⟩ := hrel
    have HC := hide1 (HF.out A B wr HA.out HSA.out HKr.out)
    have hef := ef
    go_wp2_with fail
    refine HC.out.mono ?_
    rintro e w6 ⟨A', B', hr6, hu6, hf6, rfl, hs6, hk6⟩
    have HR6 := hide1 hr6
    have HU6 := hide1 hu6
    have HF6 := hide1 hf6
    have HS6 := hide1 hs6
    have HZ6 := hide1 (HSZ.out.but hk6 (by omega))
    have HKK := hide1 (KeptBut.up HKr.out (Nat.le_refl _) hk6)
    clear hr6 hu6 hf6 hs6 hk6
    by_cases hne : A' = A ∧ B' = B
    · obtain ⟨e1, e2⟩ := hne
      have hb : (!(A' == A && B' == B)) = false := by simp [e1, e2]
      rw [hb]
      have HFA := hide1 (HF6.out e1 e2)
      clear hb
      rw [e1, e2] at HS6 HR6
      clear e1 e2
      obtain ⟨⟨c0, c1, c2, c3⟩, _⟩ := HS6.out.cells
      obtain ⟨⟨r0, r1, r2, r3⟩, z0, z1, z2, z3⟩ := HZ6.out.cells
      go_wp2_with fail
      refine bodyPost_ret (results_cell_row rfl _ _ (w.heap.size + 1) 137 (reachV A B) (0, 0) _ rfl (HZ6.out.fill A B) Tryd.underlying137 rfl (reach_size _ _)) rfl ?_
      exact ⟨A, B, HR6.out, HFA.out, rfl, keepB (keepB (keepB (keepB HKK.out (by omega)) (by omega)) (by omega)) (by omega)⟩
    · have hb : (!(A' == A && B' == B)) = true := by
        by_cases eA : A' = A
        · have eB : B' ≠ B := fun e => hne ⟨eA, e⟩
          simp [eB]
        · simp [eA]
      rw [hb]
      have HNE := hide1 hne
      clear hb hne
      go_wp2_with fail
      go_roundw
      case rel => exact ⟨A', B', HR6, HS6, HZ6, HKK⟩
      case measure =>
        obtain ⟨a1, a2⟩ := HR.out _ _ HR6.out
        obtain ⟨b1, b2⟩ := HR.out _ _ HA.out
        rw [HS6.out.rd a1 a2, HSA.out.rd b1 b2]
        have l1 := leftS_le HU6.out.1 b1 a1
        have l2 := leftS_le HU6.out.2 b2 a2
        by_cases eA : A' = A
        · have := leftS_lt HU6.out.2 b2 a2 (fun e => HNE.out ⟨eA, e.symm⟩)
          omega
        · have := leftS_lt HU6.out.1 b1 a1 (fun e => eA e.symm)
          omega
/-- What is reached. -/
def ReachR (ps : List ProdM) (nl st : Nat) (w : World) (e : Ending) (w' : World) : Prop := ∃ A B, e = .returned (.agg (reachV A B)) ∧ (∀ n, A.testBit n = true ↔ Rc ps st n) ∧ (∀ t, B.testBit t = true ↔ RcT ps nl st t) ∧ Kept w w'
set_option linter.unusedSimpArgs false in
set_option maxRecDepth 100000 in
set_option maxHeartbeats 4000000 in
theorem sReach_is (nl st : Nat) (ps : List ProdM) (al : Option Addr) (cl : Nat) (x1 : Value) (ap : Option Addr) (np cp : Nat) (w : World) (hnl : nl < 128) (hst : st < 128) (hps : ps.length = np) (hp : ProdsAt w (.slice ap np cp) ps) (hok : ∀ p ∈ ps, ProdGood p) :
    Calls Tryd.prog 84 #[.agg #[.slice al nl cl, x1, .int .i64 (st : Int), .slice ap np cp]] w (ReachR ps nl st w) := by
  have HK1 : Hid (Kept w (w.alloc (.cells #[.slice al nl cl, x1, .int .i64 (st : Int), .slice ap np cp] 26))) := (Kept.refl w).alloc _ _
  have HB1 := hide1 (SBox.new w (.slice al nl cl) x1 (.int .i64 (st : Int)) (.slice ap np cp))
  have HK2 : Hid (Kept (w.alloc (.cells #[.slice al nl cl, x1, .int .i64 (st : Int), .slice ap np cp] 26)) ((w.alloc (.cells #[.slice al nl cl, x1, .int .i64 (st : Int), .slice ap np cp] 26)).alloc (.cells #[.int .u64 0, .int .u64 0, .int .u64 0, .int .u64 0] 137))) := (Kept.refl _).alloc _ _
  have HB2 : Hid (RcB ((w.alloc (.cells #[.slice al nl cl, x1, .int .i64 (st : Int), .slice ap np cp] 26)).alloc (.cells #[.int .u64 0, .int .u64 0, .int .u64 0, .int .u64 0] 137)) (w.alloc (.cells #[.slice al nl cl, x1, .int .i64 (st : Int), .slice ap np cp] 26)).heap.size 0 0) := heap_alloc_new _ _
  rw [World.size_alloc] at HB2
  have HP := hide1 hp
  have HPS := hide1 hps
  have HOK := hide1 hok
  have HNL := hide1 hnl
  have HST := hide1 hst
  clear hp hps hok hnl hst
  go_enter Tryd.func84, Tryd.ntmps84
  go_upto_region 1 with fail
  obtain ⟨W1, hW1⟩ : ∃ W1, w.alloc (.cells #[.slice al nl cl, x1, .int .i64 (st : Int), .slice ap np cp] 26) = W1 := ⟨_, rfl⟩
  rw [hW1] at HK1 HB1 HK2 HB2 ⊢
  obtain ⟨W2, hW2⟩ : ∃ W2, W1.alloc (.cells #[.int .u64 0, .int .u64 0, .int .u64 0, .int .u64 0] 137) = W2 := ⟨_, rfl⟩
  rw [hW2] at HK2 HB2 ⊢
  clear hW1 hW2
  obtain ⟨b, hb⟩ : ∃ b, w.heap.size = b := ⟨_, rfl⟩
  rw [hb] at HB1 HB2 ⊢
  have HB := hide1 hb
  clear hb
  have HB12 := hide1 (HB1.out.keep HK2.out)
  have HKW := hide1 (gtrans HK1.out HK2.out)
  have HC : Hid (∀ W3, Kept W2 W3 → Calls Tryd.prog 95 #[.agg (reachV (2 ^ st) 0), .func (.func 96) #[] #[.pointer (some ⟨b, 0, none⟩)]] W3 (LrR (fun A B => (A < 2 ^ 128 ∧ B < 2 ^ 128) ∧ A.testBit st = true ∧ (∀ n, A.testBit n = true → Rc ps st n) ∧ TSound ps nl st B) (fun A B => RcS ps nl st A B A B ps.length 0) W3)) := fun W3 hk3 =>
    leastReach_is 96 #[.pointer (some ⟨b, 0, none⟩)] (2 ^ st) 0 _ _ W3 ⟨⟨Nat.pow_lt_pow_right (by decide) HST.out, by decide⟩, Nat.testBit_two_pow_self, fun n hn => by
        have e : n = st := by have := Nat.testBit_two_pow (n := st) (m := n); rw [hn] at this; have := of_decide_eq_true this.symm; omega
        rw [e]; exact (rc_closed ps st).1, fun t ht => by simp at ht⟩ (fun A B h => h.1) (enters_of Tryd.func96 (by kernel_rfl) rfl)
      (fun A B wr hR hS hk => (rcStep_is W3.heap.size b A B nl st ps al cl x1 (st : Int) ap np cp W3 wr HNL.out HPS.out hS hR.1.1 hR.1.2 ((HB12.out.keep hk3).keep hk) (HP.out.keep (gtrans HKW.out hk3)) hk (Nat.le_refl _) (Nat.ne_of_lt (HB12.out.keep hk3).lt) HOK.out).mono (by
        rintro e w' ⟨A', B', hm, he, hs, hk'⟩
        exact ⟨A', B', ⟨⟨hm.step.bound hR.1.1, hm.bound hR.1.2⟩, hm.step.up _ hR.2.1, hm.step.sound hR.2.2.1, hm.terms hR.2.2.1 hR.2.2.2⟩, ⟨hm.step.up, hm.up⟩, fun e1 e2 => by subst e1 e2; exact hm, he, hs, hk'⟩))
  obtain ⟨s0, s1, s2, s3⟩ := HB12.out.facts
  go_wp2_with (first
    | (go_at_call 58; refine (sWith_is 0 st HST.out _).mono ?_; rintro e w5 ⟨rfl, hk5⟩; rw [Nat.zero_or, setS_eq]; have HK5 := hide1 hk5; clear hk5)
    | (go_at_call 95; refine (HC.out _ HK5.out).mono ?_; rintro e w6 ⟨A, B, hr6, hf6, rfl, hk6⟩; rw [reachV_eq]; have HR6 := hide1 hr6; have HF6 := hide1 hf6; have HK6 := hide1 (gtrans HK5.out hk6); have HZ6 := hide1 (HB2.out.keep HK6.out); obtain ⟨⟨r0, r1, r2, r3⟩, z0, z1, z2, z3⟩ := HZ6.out.cells; clear hr6 hf6 hk6))
  refine bodyPost_ret (results_cell_row rfl _ _ (b + 1) 137 (reachV A B) (0, 0) _ rfl (HZ6.out.fill A B) Tryd.underlying137 rfl (reach_size _ _)) rfl ?_
  have hdone := HF6.out.step.done HR6.out.2.1 HR6.out.2.2.1 HR6.out.2.2.2
  exact ⟨A, B, rfl, hdone.1, hdone.2, keepB (keepB (keepB (keepB (gtrans HKW.out HK6.out) (by rw [HB.out]; omega)) (by rw [HB.out]; omega)) (by rw [HB.out]; omega)) (by rw [HB.out]; omega)⟩

end Ex
end Go.Proofs.YtooelfjceehmmaaDoor
namespace Go.Proofs.YtooelfjceehmmaaDoor
open Go.RowKit
attribute [local go_sem] Oper.semAt_some
namespace Ex

/-- Is a rule trivia? -/
def TrivP {k : Nat} (lex : List (LexM k)) (i : Nat) : Prop := ∃ l, lex[i]? = some l ∧ l.2.1 = true
/-- The first name, else the first rule, that is not reached. -/
def ReachedQ {k : Nat} (lex : List (LexM k)) (ps : List ProdM) (nn nl st : Nat) (x : Int × Int) : Prop := ∃ y, FirstMiss (Rc ps st) nn 72 y ∧ ((y.1 ≠ 0 ∧ x = y) ∨ (y.1 = 0 ∧ FirstMiss (fun i => TrivP lex i ∨ RcT ps nl st i) nl 72 x))
def RlI {k : Nat} (lex : List (LexM k)) (B : Nat) (W : World) (vi : Value) (wr : World) : Prop := ∃ j : Nat, vi = .int .i64 (j : Int) ∧ Hid (∀ i, i < j → TrivP lex i ∨ B.testBit i = true) ∧ Hid (Kept W wr)
set_option linter.unusedSimpArgs false in
set_option maxRecDepth 100000 in
set_option maxHeartbeats 8000000 in
theorem checkReached_is (k : Nat) (lex : List (LexM k)) (ps : List ProdM) (al an ap : Option Addr) (nl cl nn cn np cp st : Nat) (w : World) (hnl : nl ≤ 64) (hnn : nn ≤ 128) (hst : st < 128) (hlex : lex.length = nl) (hps : ps.length = np) (hl : LexAt w k (.slice al nl cl) lex) (hp : ProdsAt w (.slice ap np cp) ps) (hok : ∀ p ∈ ps, ProdGood p) :
    Calls Tryd.prog 52 #[.agg #[.slice al nl cl, .slice an nn cn, .int .i64 (st : Int), .slice ap np cp]] w (FaultR (ReachedQ lex ps nn nl st) w) := by
  obtain ⟨h1, h2, h3⟩ := chk_start w (.slice al nl cl) (.slice an nn cn) (.int .i64 (st : Int)) (.slice ap np cp)
  have HB := hide1 h1
  have HF := hide1 h2
  have HK := hide1 h3
  have HP := hide1 hp
  have HPS := hide1 hps
  have HOK := hide1 hok
  have HLX := hide1 hl
  have HLEN := hide1 hlex
  have HST := hide1 hst
  obtain ⟨_, _, e1, hcl, _⟩ := hl.len
  simp only [Value.slice.injEq] at e1
  obtain ⟨rfl, en, rfl⟩ := e1
  clear en
  rw [hlex] at hcl
  have gn : (nn : Int) ≤ 128 := by omega
  have gl : (nl : Int) ≤ 64 := by omega
  clear h1 h2 h3 hp hps hok hl hlex hst
  go_enter Tryd.func52, Tryd.ntmps52
  go_upto_region 1 with fail
  obtain ⟨W, hW⟩ : ∃ W, (w.alloc (.cells #[.slice al nl cl, .slice an nn cn, .int .i64 (st : Int), .slice ap np cp] 26)).alloc (.cells #[.int .i64 0, .int .i64 0, .string ⟨#[]⟩] 44) = W := ⟨_, rfl⟩
  rw [hW] at HB HF HK ⊢
  clear hW
  obtain ⟨b, hb⟩ : ∃ b, w.heap.size = b := ⟨_, rfl⟩
  rw [hb] at HB HF ⊢
  have HSZ := hide1 hb
  clear hb
  obtain ⟨s0, s1, s2, s3⟩ := HB.out.facts
  go_upto_region 2 with (go_at_call 84; refine (sReach_is nl st ps al cl (.slice an nn cn) ap np cp _ (by omega) HST.out HPS.out (HP.out.keep HK.out) HOK.out).mono ?_; rintro e w6 ⟨A, B, rfl, ha6, hb6, hk6⟩; rw [reachV_eq]; have HA6 := hide1 ha6; have HB6 := hide1 hb6; have HK6 := hide1 hk6; clear ha6 hk6 hb6)
  clear s0 s1 s2 s3
  have HKA : Hid (Kept w6 (w6.alloc (.cells #[.int .u64 (wordAt A 0 : Nat), .int .u64 (wordAt A 1 : Nat), .int .u64 (wordAt B 0 : Nat), .int .u64 (wordAt B 1 : Nat)] 137))) := (Kept.refl _).alloc _ _
  have HSA := hide1 (RcB.new w6 A B)
  rw [reachV_eq] at HSA
  obtain ⟨W7, hW7⟩ : ∃ W7, w6.alloc (.cells #[.int .u64 (wordAt A 0 : Nat), .int .u64 (wordAt A 1 : Nat), .int .u64 (wordAt B 0 : Nat), .int .u64 (wordAt B 1 : Nat)] 137) = W7 := ⟨_, rfl⟩
  rw [hW7] at HKA HSA ⊢
  clear hW7
  obtain ⟨sb, hsb⟩ : ∃ sb, w6.heap.size = sb := ⟨_, rfl⟩
  rw [hsb] at HSA ⊢
  clear hsb
  have HK7 := hide1 (gtrans HK.out (gtrans HK6.out HKA.out))
  have HF7 := hide1 (HF.out.keep (gtrans HK6.out HKA.out))
  have HB7 := hide1 (HB.out.keep (gtrans HK6.out HKA.out))
  obtain ⟨s0, s1, s2, s3⟩ := HB7.out.facts
  go_wp2_with fail
  clear s0 s1 s2 s3
  go_loopw [12] (SnI A W7) (fun i _ => nn - (intOf i).toNat)
  case atStart => exact ⟨0, rfl, fun k hk => by omega, Kept.refl W7⟩
  case round =>
    obtain ⟨j, rfl, HJ, HKr⟩ := hrel
    by_cases hlt : (j : Int) < (nn : Int)
    · obtain ⟨⟨a0, a1, a2, a3⟩, _⟩ := (HSA.out.keep HKr.out).cells
      have HJ8 : Hid (j < 128) := by show _ < _; omega
      cases hbit : A.testBit j with
      | true =>
        have HBT := hide1 hbit
        clear hbit
        go_wp2_with (go_at_call 44; refine (sHas_is A j HJ8.out _).mono ?_; rintro e w8 ⟨rfl, hk8⟩; rw [HBT.out]; have HK8 := hide1 (gtrans HKr.out hk8); clear hk8)
        go_roundw
        case rel => exact ⟨j + 1, by go_num, fun k hk => (by rcases Nat.lt_or_ge k j with h | h; exact HJ.out k h; rw [show k = j by omega]; exact HBT.out), HK8⟩
        case measure => simp [intOf]; omega
      | false =>
        have HBT := hide1 hbit
        clear hbit
        go_wp2_with (go_at_call 44; refine (sHas_is A j HJ8.out _).mono ?_; rintro e w8 ⟨rfl, hk8⟩; rw [HBT.out]; have HK8 := hide1 (gtrans HKr.out hk8); have HF8 := hide1 (HF7.out.keep HK8.out); obtain ⟨⟨f0, f1, f2⟩, z0, z1, z2⟩ := HF8.out.cells; clear hk8)
        refine bodyPost_ret (results_cell_row rfl _ _ (b + 1) 44 _ (0, 0) _ rfl (HF8.out.fill 72 (j : Int)) Tryd.underlying44 rfl (fault_size _ _)) rfl ?_
        refine ⟨(72, (j : Int)), rfl, ⟨(72, (j : Int)), .inl ⟨j, by omega, fun h => ?_, fun k hk => (HA6.out k).1 (HJ.out k hk), rfl⟩, .inl ⟨(by show (72 : Int) ≠ 0; decide), rfl⟩⟩, keepB (keepB (keepB (gtrans HK7.out HK8.out) (by rw [HSZ.out]; omega)) (by rw [HSZ.out]; omega)) (by rw [HSZ.out]; omega)⟩
        have := (HA6.out j).2 h
        rw [HBT.out] at this
        cases this
    · have HN : Hid (FirstMiss (Rc ps st) nn 72 (0, 0)) := .inr ⟨fun k hk => (HA6.out k).1 (HJ.out k (by omega)), rfl⟩
      obtain ⟨s0, s1, s2, s3⟩ := (HB7.out.keep HKr.out).facts
      clear HJ
      go_wp2_with fail
      clear s0 s1 s2 s3
      go_loopw [26] (RlI lex B wr) (fun i _ => nl - (intOf i).toNat)
      case atStart => exact ⟨0, rfl, fun k hk => by omega, Kept.refl wr⟩
      case round =>
        obtain ⟨i, rfl, HI, HKi⟩ := hrel
        have HKw := hide1 (gtrans HKr.out HKi.out)
        by_cases hli : (i : Int) < (nl : Int)
        · obtain ⟨x, hx⟩ : ∃ x, lex[i]? = some x := ⟨_, List.getElem?_eq_getElem (by have := HLEN.out; omega)⟩
          obtain ⟨cb, ob, cs, ea, hcb, hlen, hcell, v', hcs, _, hkd⟩ := SliceOf.el (HLX.out.keep (gtrans HK7.out HKw.out)) hx
          have HX := hide1 hx
          obtain ⟨ak, ck, rfl⟩ := hkd.form
          obtain ⟨nk, hnk⟩ : ∃ nk, (kids x.2.2).length = nk := ⟨_, rfl⟩
          rw [hnk] at hcs
          subst hcs
          have k0 : wr.cell? ⟨cb, ob + i * 8, none⟩ = some (.string x.1) := hcell 0 _ rfl
          have k1 := hcell 1 _ rfl
          have k2 := hcell 2 _ rfl
          have k3 := hcell 3 _ rfl
          have k4 := hcell 4 _ rfl
          have k5 := hcell 5 _ rfl
          have k6 := hcell 6 _ rfl
          have k7 := hcell 7 _ rfl
          obtain ⟨nm, tv, pt⟩ := x
          obtain ⟨v2, hv2⟩ : ∃ v, kind pt = v := ⟨_, rfl⟩
          obtain ⟨v3, hv3⟩ : ∃ v, from_ pt = v := ⟨_, rfl⟩
          obtain ⟨v4, hv4⟩ : ∃ v, to_ pt = v := ⟨_, rfl⟩
          obtain ⟨v5, hv5⟩ : ∃ v, min_ pt = v := ⟨_, rfl⟩
          obtain ⟨v6, hv6⟩ : ∃ v, max_ pt = v := ⟨_, rfl⟩
          dsimp only at k0 k1 k2 k3 k4 k5 k6 k7
          rw [hv2] at k2
          rw [hv3] at k3
          rw [hv4] at k4
          rw [hv5] at k5
          rw [hv6] at k6
          have gic : (i : Int) < (cl : Int) := by omega
          clear hx hcell hkd hnk hv2 hv3 hv4 hv5 hv6
          subst ea
          go_upto_region 11 with fail
          clear k0 k1 k2 k3 k4 k5 k6 k7
          have HK9 : Hid (Kept wr (wr.alloc (.cells #[.string nm, .bool tv, .int .i64 v2, .int .i64 v3, .int .i64 v4, .int .i64 v5, .int .i64 v6, .slice ak nk ck] 89))) := (Kept.refl wr).alloc _ _
          have hb9 : (wr.alloc (.cells #[.string nm, .bool tv, .int .i64 v2, .int .i64 v3, .int .i64 v4, .int .i64 v5, .int .i64 v6, .slice ak nk ck] 89)).heap[wr.heap.size]? = some (.cells #[.string nm, .bool tv, .int .i64 v2, .int .i64 v3, .int .i64 v4, .int .i64 v5, .int .i64 v6, .slice ak nk ck] 89 (0, 0)) := heap_alloc_new wr _
          have t1 : (wr.alloc (.cells #[.string nm, .bool tv, .int .i64 v2, .int .i64 v3, .int .i64 v4, .int .i64 v5, .int .i64 v6, .slice ak nk ck] 89)).cell? ⟨wr.heap.size, 1, none⟩ = some (.bool tv) := by simp only [World.cell?, hb9]; rfl
          obtain ⟨W9, hW9⟩ : ∃ W9, wr.alloc (.cells #[.string nm, .bool tv, .int .i64 v2, .int .i64 v3, .int .i64 v4, .int .i64 v5, .int .i64 v6, .slice ak nk ck] 89) = W9 := ⟨_, rfl⟩
          rw [hW9] at HK9 t1 ⊢
          clear hW9 hb9
          obtain ⟨lb, hlb⟩ : ∃ lb, wr.heap.size = lb := ⟨_, rfl⟩
          rw [hlb] at t1 ⊢
          clear hlb
          cases tv with
          | true =>
            have HT : Hid (TrivP lex i) := ⟨_, HX.out, rfl⟩
            go_wp2_with fail
            go_roundw
            case rel => exact ⟨i + 1, by go_num, fun m hm => (by rcases Nat.lt_or_ge m i with h | h; exact HI.out m h; rw [show m = i by omega]; exact .inl HT.out), gtrans HKi.out HK9.out⟩
            case measure => simp [intOf]; omega
          | false =>
            have HNT : Hid (¬ TrivP lex i) := by
              rintro ⟨l, h1, h2⟩
              rw [HX.out] at h1
              injection h1 with h1
              rw [← h1] at h2
              cases h2
            have HS9 := hide1 (HSA.out.keep (gtrans HKw.out HK9.out))
            obtain ⟨⟨a0, a1, a2, a3⟩, _⟩ := HS9.out.cells
            have HI8 : Hid (i < 128) := by show _ < _; omega
            cases hbit : B.testBit i with
            | true =>
              have HBT := hide1 hbit
              clear hbit
              go_wp2_with (go_at_call 44; refine (sHas_is B i HI8.out _).mono ?_; rintro e w8 ⟨rfl, hk8⟩; rw [HBT.out]; have HK8 := hide1 (gtrans HK9.out hk8); clear hk8)
              go_roundw
              case rel => exact ⟨i + 1, by go_num, fun m hm => (by rcases Nat.lt_or_ge m i with h | h; exact HI.out m h; rw [show m = i by omega]; exact .inr HBT.out), gtrans HKi.out HK8.out⟩
              case measure => simp [intOf]; omega
            | false =>
              have HBT := hide1 hbit
              clear hbit
              go_wp2_with (go_at_call 44; refine (sHas_is B i HI8.out _).mono ?_; rintro e w8 ⟨rfl, hk8⟩; rw [HBT.out]; have HK8 := hide1 (gtrans HKw.out (gtrans HK9.out hk8)); have HF8 := hide1 (HF7.out.keep HK8.out); obtain ⟨⟨f0, f1, f2⟩, z0, z1, z2⟩ := HF8.out.cells; clear hk8)
              refine bodyPost_ret (results_cell_row rfl _ _ (b + 1) 44 _ (0, 0) _ rfl (HF8.out.fill 72 (i : Int)) Tryd.underlying44 rfl (fault_size _ _)) rfl ?_
              refine ⟨(72, (i : Int)), rfl, ⟨(0, 0), HN.out, .inr ⟨rfl, .inl ⟨i, by omega, fun h => ?_, fun m hm => (HI.out m hm).imp id (HB6.out m).1, rfl⟩⟩⟩, keepB (keepB (keepB (gtrans HK7.out HK8.out) (by rw [HSZ.out]; omega)) (by rw [HSZ.out]; omega)) (by rw [HSZ.out]; omega)⟩
              rcases h with h | h
              · exact HNT.out h
              · have := (HB6.out i).2 h
                rw [HBT.out] at this
                cases this
        · obtain ⟨⟨f0, f1, f2⟩, z0, z1, z2⟩ := (HF7.out.keep HKw.out).cells
          go_wp2_with fail
          refine bodyPost_ret (results_cell_row rfl _ _ (b + 1) 44 _ (0, 0) _ rfl ((HF7.out.keep HKw.out).fill 0 0) Tryd.underlying44 rfl (fault_size _ _)) rfl ?_
          exact ⟨(0, 0), rfl, ⟨(0, 0), HN.out, .inr ⟨rfl, .inr ⟨fun m hm => (HI.out m (by omega)).imp id (HB6.out m).1, rfl⟩⟩⟩, keepB (keepB (keepB (gtrans HK7.out HKw.out) (by rw [HSZ.out]; omega)) (by rw [HSZ.out]; omega)) (by rw [HSZ.out]; omega)⟩

end Ex
end Go.Proofs.YtooelfjceehmmaaDoor
