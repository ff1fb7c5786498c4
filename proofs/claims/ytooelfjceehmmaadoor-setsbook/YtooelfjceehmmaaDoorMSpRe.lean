import Derived.Test.YtooelfjceehmmaaDoorMSpTk
namespace Go.Proofs.YtooelfjceehmmaaDoor
open Go.RowKit
namespace Ex

theorem term_lt {nl : Nat} (hnl : nl < 128) {x : SymM} (hx : SymGood x) (h3 : x.1 ≠ 3) : termN nl x < 128 := by
  unfold termN
  by_cases e2 : x.1 = 2
  · rw [if_pos e2]; exact hnl
  · rw [if_neg e2]
    have := hx.2 h3 e2
    omega
/-- A step over the first j productions: from (A, B) to (A1, B1). -/
structure RcS (ps : List ProdM) (nl st A B A1 B1 j m : Nat) : Prop where
  step : RcStep ps nl st A A1 B1 j m
  up : ∀ n, B.testBit n = true → B1.testBit n = true
  bound : B < 2 ^ 128 → B1 < 2 ^ 128
  terms : (∀ n, A.testBit n = true → Rc ps st n) → TSound ps nl st B → TSound ps nl st B1
theorem RcS.start (ps : List ProdM) (nl st A B : Nat) : RcS ps nl st A B A B 0 0 := ⟨RcStep.start ps nl st A B, fun _ h => h, fun h => h, fun _ h => h⟩
theorem RcS.row {ps : List ProdM} {nl st A B : Nat} {p : ProdM} (hnl : nl < 128) (hg : ∀ x ∈ p.2, SymGood x) {j : Nat} (hp : ps[j]? = some p) : ∀ (k m A1 B1 : Nat), p.2.length - m = k → m ≤ p.2.length → RcS ps nl st A B A1 B1 j m → A1.testBit p.1.toNat = true → RcS ps nl st A B (takeM nl (p.2.drop m) (A1, B1)).1 (takeM nl (p.2.drop m) (A1, B1)).2 j p.2.length
  | 0, m, A1, B1, hk, hm, h, _ => by
    have e : m = p.2.length := by omega
    rw [List.drop_of_length_le (by omega)]
    exact e ▸ h
  | k + 1, m, A1, B1, hk, hm, h, hl => by
    have hlt : m < p.2.length := by omega
    obtain ⟨x, hx⟩ : ∃ x, p.2[m]? = some x := ⟨_, List.getElem?_eq_getElem hlt⟩
    have hxm := List.mem_of_getElem? hx
    have ed : p.2.drop m = x :: p.2.drop (m + 1) := by
      obtain ⟨h2, e⟩ := List.getElem?_eq_some_iff.1 hx
      rw [List.drop_eq_getElem_cons h2, e]
    rw [ed]
    by_cases h3 : x.1 = 3
    · have e : takeM nl (x :: p.2.drop (m + 1)) (A1, B1) = takeM nl (p.2.drop (m + 1)) (A1 ||| 2 ^ x.2.toNat, B1) := by show takeM nl _ (if x.1 = 3 then _ else _) = _; rw [if_pos h3]
      rw [e]
      have hn := (hg x hxm).1 h3
      exact RcS.row hnl hg hp k (m + 1) _ _ (by omega) (by omega) ⟨h.step.name hp hl hx h3 (by omega), h.up, h.bound, h.terms⟩ ((testBit_with A1 _ _).2 (.inl hl))
    · have e : takeM nl (x :: p.2.drop (m + 1)) (A1, B1) = takeM nl (p.2.drop (m + 1)) (A1, B1 ||| 2 ^ termN nl x) := by show takeM nl _ (if x.1 = 3 then _ else _) = _; rw [if_neg h3]
      rw [e]
      exact RcS.row hnl hg hp k (m + 1) _ _ (by omega) (by omega) ⟨h.step.term hp hx h3, fun n hn => (testBit_with B1 _ n).2 (.inl (h.up n hn)), fun hb => Nat.or_lt_two_pow (h.bound hb) (Nat.pow_lt_pow_right (by decide) (term_lt hnl (hg x hxm) h3)), fun hs ht => (h.terms hs ht).put (List.mem_of_getElem? hp) (h.step.sound hs _ hl) hxm h3⟩ hl
/-- A production that counts. -/
theorem RcS.put {ps : List ProdM} {nl st A B A1 B1 j : Nat} {p : ProdM} (h : RcS ps nl st A B A1 B1 j 0) (hnl : nl < 128) (hg : ∀ x ∈ p.2, SymGood x) (hp : ps[j]? = some p) (hl : A1.testBit p.1.toNat = true) : RcS ps nl st A B (takeM nl p.2 (A1, B1)).1 (takeM nl p.2 (A1, B1)).2 (j + 1) 0 := by
  have := RcS.row hnl hg hp _ 0 A1 B1 rfl (Nat.zero_le _) h hl
  exact ⟨this.step.next hp rfl, this.up, this.bound, this.terms⟩
theorem RcS.skip {ps : List ProdM} {nl st A B A1 B1 j : Nat} {p : ProdM} (h : RcS ps nl st A B A1 B1 j 0) (hp : ps[j]? = some p) (hl : A1.testBit p.1.toNat = false) : RcS ps nl st A B A1 B1 (j + 1) 0 := ⟨h.step.skip hp hl, h.up, h.bound, h.terms⟩
set_option maxRecDepth 100000 in
/-- Two structs of two sets each. -/
theorem neq_reach {A B A1 B1 : Nat} (hA : A < 2 ^ 128) (hB : B < 2 ^ 128) (hA1 : A1 < 2 ^ 128) (hB1 : B1 < 2 ^ 128) (w : World) : (binOp .neq 137 (.agg #[.int .u64 (wordAt A 0 : Nat), .int .u64 (wordAt A 1 : Nat), .int .u64 (wordAt B 0 : Nat), .int .u64 (wordAt B 1 : Nat)]) (.agg #[.int .u64 (wordAt A1 0 : Nat), .int .u64 (wordAt A1 1 : Nat), .int .u64 (wordAt B1 0 : Nat), .int .u64 (wordAt B1 1 : Nat)])).run Tryd.prog w = .ok (.bool (!(A == A1 && B == B1))) w := by
  have ht : Tryd.prog.underlying 137 = some (.struct (Tryd.prog.fieldsOf 137)) := by kernel_rfl
  have hp : Tryd.prog.stoodInHeld 137 = false := by kernel_rfl
  have hf : ((Tryd.prog.fieldsOf 137).toList.map fun f => (f.name, f.type, f.offset)) = [("names", 75, 0), ("terminals", 75, 2)] := by kernel_rfl
  rw [run_neq_struct, run_equalIn_struct w 9999 _ _ _ ht hp]
  obtain ⟨fs, hfs⟩ : ∃ fs, (Tryd.prog.fieldsOf 137).toList = fs := ⟨_, rfl⟩
  rw [hfs] at hf ⊢
  match fs, hf with
  | [f0, f1], hf =>
    simp only [List.map_cons, List.map_nil, List.cons.injEq, Prod.mk.injEq, and_true] at hf
    obtain ⟨⟨n0, t0, o0⟩, n1, t1, o1⟩ := hf
    have hpart0 : ∀ (a b c d : Value) (w : World), (part 75 #[a, b, c, d] 0).run Tryd.prog w = .ok (.agg #[a, b]) w := by
      intro a b c d w
      go_simp
    have hpart2 : ∀ (a b c d : Value) (w : World), (part 75 #[a, b, c, d] 2).run Tryd.prog w = .ok (.agg #[c, d]) w := by
      intro a b c d w
      go_simp
    simp only [Op.eqFields, n0, t0, o0, n1, t1, o1, Sem.run_bind, Sem.run_ite, hpart0, hpart2, Result.andThen_ok, eq_words w 9997, words_b hA hA1, words_b hB hB1]
    cases h1 : (A == A1) <;> cases h2 : (B == B1) <;> simp

end Ex
end Go.Proofs.YtooelfjceehmmaaDoor
namespace Go.Proofs.YtooelfjceehmmaaDoor
open Go.RowKit
attribute [local go_sem] Oper.semAt_some
namespace Ex

def ProdGood (p : ProdM) : Prop := (0 ≤ p.1 ∧ p.1 < 128) ∧ ∀ x ∈ p.2, SymGood x
def RcI (ps : List ProdM) (nl st A B d : Nat) (W : World) (vi : Value) (wr : World) : Prop := ∃ j A1 B1 : Nat, vi = .int .i64 (j : Int) ∧ j ≤ ps.length ∧ Hid (RcS ps nl st A B A1 B1 j 0) ∧ Hid (RcB wr d A1 B1) ∧ Hid (KeptBut d W wr)
/-- What a step of reach answers. -/
def RcR (ps : List ProdM) (nl st A B d : Nat) (w : World) (e : Ending) (w' : World) : Prop := ∃ A1 B1, RcS ps nl st A B A1 B1 ps.length 0 ∧ e = .returned (.bool (!(A1 == A && B1 == B))) ∧ RcB w' d A1 B1 ∧ KeptBut d w w'
set_option linter.unusedSimpArgs false in
set_option maxRecDepth 100000 in
set_option maxHeartbeats 8000000 in
theorem rcStep_is (d g A B nl st : Nat) (ps : List ProdM) (al : Option Addr) (cl : Nat) (x1 : Value) (sv : Int) (ap : Option Addr) (np cp : Nat) (w0 w : World) (hnl : nl < 128) (hps : ps.length = np) (hA : RcB w d A B) (hA8 : A < 2 ^ 128) (hB8 : B < 2 ^ 128) (hg : SBox w g (.slice al nl cl) x1 (.int .i64 sv) (.slice ap np cp)) (hp : ProdsAt w0 (.slice ap np cp) ps) (hk : Kept w0 w) (hd : w0.heap.size ≤ d) (hgd : g ≠ d) (hok : ∀ p ∈ ps, ProdGood p) :
    Calls Tryd.prog 96 #[.pointer (some ⟨d, 0, none⟩), .pointer (some ⟨g, 0, none⟩)] w (RcR ps nl st A B d w) := by
  have HPS := hide1 hps
  have HA8 := hide1 hA8
  have HB8 := hide1 hB8
  have HP := hide1 hp
  have HK0 := hide1 hk
  have HD := hide1 hd
  have HGD := hide1 hgd
  have HOK := hide1 hok
  have HNL := hide1 hnl
  have HA := hide1 hA
  have HG := hide1 hg
  obtain ⟨_, _, e1, hc, hn⟩ := hp.len
  simp only [Value.slice.injEq] at e1
  obtain ⟨rfl, en, rfl⟩ := e1
  clear en
  rw [hps] at hc hn
  have gn : (np : Int) ≤ 17592186044416 := by omega
  obtain ⟨⟨a0, a1, a2, a3⟩, _⟩ := hA.cells
  clear hps hA hA8 hB8 hg hp hk hd hgd hok hnl
  go_enter Tryd.func96, Tryd.ntmps96
  go_upto_region 2 with fail
  clear a0 a1 a2 a3
  have HK1 : Hid (Kept w (w.alloc (.cells (reachV A B) 137))) := (Kept.refl w).alloc _ _
  have HO := hide1 (RcB.new w A B)
  have HOD : Hid (w.heap.size ≠ d) := Nat.ne_of_gt HA.out.lt
  rw [reachV_eq] at HK1 HO
  obtain ⟨W, hW⟩ : ∃ W, w.alloc (.cells #[.int .u64 (wordAt A 0 : Nat), .int .u64 (wordAt A 1 : Nat), .int .u64 (wordAt B 0 : Nat), .int .u64 (wordAt B 1 : Nat)] 137) = W := ⟨_, rfl⟩
  rw [hW] at HK1 HO ⊢
  clear hW
  obtain ⟨ob, hob⟩ : ∃ ob, w.heap.size = ob := ⟨_, rfl⟩
  rw [hob] at HO HOD ⊢
  clear hob
  have HA2 := hide1 (HA.out.keep HK1.out)
  have HG2 := hide1 (HG.out.keep HK1.out)
  obtain ⟨s0, s1, s2, s3⟩ := HG2.out.facts
  go_wp2_with fail
  clear s0 s1 s2 s3
  go_loopw [13] (RcI ps nl st A B d W) (fun i _ => np - (intOf i).toNat)
  case atStart => exact ⟨0, A, B, rfl, Nat.zero_le _, RcS.start ps nl st A B, HA2, but_refl d W⟩
  case round =>
    obtain ⟨j, A1, B1, rfl, hj, HM, HSr, HKr⟩ := hrel
    rw [HPS.out] at hj
    by_cases hlt : (j : Int) < (np : Int)
    · obtain ⟨p, hp⟩ : ∃ p, ps[j]? = some p := ⟨_, List.getElem?_eq_getElem (by have := HPS.out; omega)⟩
      have HKw := hide1 (KeptBut.up (gtrans HK0.out HK1.out) HD.out HKr.out)
      obtain ⟨cb, o2, cs, ea, hcb, hlen, hcell, v', hcs, hrt⟩ := SliceOf.el HP.out hp
      subst ea hcs
      have k0 := grown_cell HKw.out (hcell 0 _ rfl)
      have k1 := grown_cell HKw.out (hcell 1 _ rfl)
      have k0 : wr.cell? ⟨cb, o2 + j * 2, none⟩ = some (.int .i64 p.1) := k0
      have gjc : (j : Int) < (cp : Int) := by omega
      have HOKp := hide1 (HOK.out p (List.mem_of_getElem? hp))
      have HPJ := hide1 hp
      obtain ⟨ar, cr, rfl, hcr, hnr⟩ := hrt.len
      obtain ⟨nr, hnr2⟩ : ∃ nr, p.2.length = nr := ⟨_, rfl⟩
      rw [hnr2] at hrt hcr hnr k1
      have HNR := hide1 hnr2
      have HRT := hide1 hrt
      obtain ⟨l, hl⟩ : ∃ l : Nat, p.1 = (l : Int) := ⟨p.1.toNat, by have := HOKp.out.1.1; omega⟩
      have HLE : Hid (p.1.toNat = l) := by show _ = _; omega
      have HL : Hid (l < 128) := by have := HOKp.out.1; show _ < _; omega
      rw [hl] at k0
      clear hp hcell hrt hnr2 hl
      have HPB := hide1 (PBox.new wr (.int .i64 (l : Int)) (.slice ar nr cr))
      have HK4 : Hid (Kept wr (wr.alloc (.cells #[.int .i64 (l : Int), .slice ar nr cr] 40))) := (Kept.refl wr).alloc _ _
      have HPBD : Hid (wr.heap.size ≠ d) := Nat.ne_of_gt HSr.out.lt
      go_upto_region 5 with fail
      clear k0 k1
      obtain ⟨W4, hW4⟩ : ∃ W4, wr.alloc (.cells #[.int .i64 (l : Int), .slice ar nr cr] 40) = W4 := ⟨_, rfl⟩
      rw [hW4] at HPB HK4 ⊢
      clear hW4
      obtain ⟨pb, hpb⟩ : ∃ pb, wr.heap.size = pb := ⟨_, rfl⟩
      rw [hpb] at HPB HPBD ⊢
      clear hpb
      have HS4 := hide1 (HSr.out.keep HK4.out)
      have HG4 := hide1 ((HG2.out.but HKr.out HGD.out).keep HK4.out)
      cases hbit : A1.testBit l with
      | true =>
        have HBT := hide1 hbit
        have HM2 := hide1 (HM.out.put HNL.out HOKp.out.2 HPJ.out (by rw [HLE.out]; exact hbit))
        clear hbit
        have q0 := keeps HS4.out.cells.1.1
        have q1 := keeps HS4.out.cells.1.2.1
        have q2 := keeps HPB.out.cells.1
        have hkr : Kept W4 W4 := Kept.refl W4
        go_region_held3 (fun w' => Kept W4 w') (first | assumption | exact Kept.refl _ | exact gtrans (by assumption) (by assumption))
          ((go_at_call 44; refine (sHas_is A1 l HL.out _).mono ?_; rintro e w5 ⟨rfl, hk5⟩; rw [HBT.out]; have k5 : Kept W4 w5 := gtrans (by assumption) hk5))
        have HK5 := hide1 k5
        clear q0 q1 q2 hkr hk5 k5
        have HS5 := hide1 (HS4.out.keep HK5.out)
        have HKT := hide1 (gtrans HKw.out (gtrans HK4.out HK5.out))
        obtain ⟨s0, s1, s2, s3⟩ := (HG4.out.keep HK5.out).facts
        obtain ⟨p0, p1⟩ := (HPB.out.keep HK5.out).cells
        go_wp2_with (go_at_call 97; refine (sTake_is d A1 B1 nl al cl x1 (.slice (some ⟨cb, o2, none⟩) np cp) sv ar nr cr p.2 w0 _ HNL.out HNR.out HRT.out HKT.out HD.out HS5.out HOKp.out.2).mono ?_; rintro e w7 ⟨rfl, hs7, hk7⟩; have HS7 := hide1 hs7; have HK7 := hide1 ((gtrans HK4.out HK5.out).but d |>.trans hk7); clear hs7 hk7)
        go_roundw
        case rel => exact ⟨j + 1, _, _, by go_num, by rw [HPS.out]; omega, HM2, HS7, HKr.out.trans HK7.out⟩
        case measure => simp [intOf]; omega
      | false =>
        have HBT := hide1 hbit
        have HM2 := hide1 (HM.out.skip HPJ.out (by rw [HLE.out]; exact hbit))
        clear hbit
        have q0 := keeps HS4.out.cells.1.1
        have q1 := keeps HS4.out.cells.1.2.1
        have q2 := keeps HPB.out.cells.1
        have hkr : Kept W4 W4 := Kept.refl W4
        go_region_held3 (fun w' => Kept W4 w') (first | assumption | exact Kept.refl _ | exact gtrans (by assumption) (by assumption))
          ((go_at_call 44; refine (sHas_is A1 l HL.out _).mono ?_; rintro e w5 ⟨rfl, hk5⟩; rw [HBT.out]; have k5 : Kept W4 w5 := gtrans (by assumption) hk5))
        have HK5 := hide1 k5
        clear q0 q1 q2 hkr hk5 k5
        go_wp2_with fail
        go_roundw
        case rel => exact ⟨j + 1, A1, B1, by go_num, by rw [HPS.out]; omega, HM2, HSr.out.keep (gtrans HK4.out HK5.out), HKr.out.trans ((gtrans HK4.out HK5.out).but d)⟩
        case measure => simp [intOf]; omega
    · have hjn : j = ps.length := by have := HPS.out; omega
      have HM2 : Hid (RcS ps nl st A B A1 B1 ps.length 0) := hjn ▸ HM
      have HSO := hide1 (HO.out.but HKr.out HOD.out)
      obtain ⟨⟨a0, a1, a2, a3⟩, _⟩ := HSr.out.cells
      obtain ⟨⟨b0, b1, b2, b3⟩, _⟩ := HSO.out.cells
      have hne := neq_reach (HM2.out.step.bound HA8.out) (HM2.out.bound HB8.out) HA8.out HB8.out
      go_upto_region 8 with fail
      go_quiet (fail)
      go_wp2_with fail
      go_ret
      exact ⟨A1, B1, HM2.out, (by show Ending.returned (.bool (!(A1 == A) || !(B1 == B))) = _; rw [Bool.not_and]), HSr.out, ((HK1.out.but d).trans HKr.out).trans ((drewN_kept _ _).but d)⟩

end Ex
end Go.Proofs.YtooelfjceehmmaaDoor
