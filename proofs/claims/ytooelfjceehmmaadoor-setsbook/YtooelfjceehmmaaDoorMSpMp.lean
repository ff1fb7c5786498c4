import Derived.Test.YtooelfjceehmmaaDoorMSpLf
import Derived.Shelf.Abstract
namespace Go.Proofs.YtooelfjceehmmaaDoor
open Go.RowKit
attribute [local go_sem] Oper.semAt_some
namespace Ex

theorem SetB.but {w w' : World} {b d A : Nat} (h : SetB w b A) (hk : KeptBut d w w') (hd : b ≠ d) : SetB w' b A := (hk.2.2.2.2 b h.lt hd).trans h
theorem SBox.but {w w' : World} {g d : Nat} {x0 x1 x2 x3 : Value} (h : SBox w g x0 x1 x2 x3) (hk : KeptBut d w w') (hd : g ≠ d) : SBox w' g x0 x1 x2 x3 := (hk.2.2.2.2 g h.lt hd).trans h
/-- A production in a box. -/
def PBox (w : World) (b : Nat) (l v : Value) : Prop := w.heap[b]? = some (.cells #[l, v] 40 (0, 0))
theorem PBox.cells {w : World} {b : Nat} {l v : Value} (h : PBox w b l v) : w.cell? ⟨b, 0, none⟩ = some l ∧ w.cell? ⟨b, 1, none⟩ = some v := by
  unfold PBox at h
  exact ⟨by simp [World.cell?, h], by simp [World.cell?, h]⟩
theorem PBox.lt {w : World} {b : Nat} {l v : Value} (h : PBox w b l v) : b < w.heap.size := (Array.getElem?_eq_some_iff.1 h).1
theorem PBox.keep {w w' : World} {b : Nat} {l v : Value} (h : PBox w b l v) (hk : Kept w w') : PBox w' b l v := (hk.2.2.2.2 b h.lt).trans h
theorem PBox.but {w w' : World} {b d : Nat} {l v : Value} (h : PBox w b l v) (hk : KeptBut d w w') (hd : b ≠ d) : PBox w' b l v := (hk.2.2.2.2 b h.lt hd).trans h
theorem PBox.new (w : World) (l v : Value) : PBox (w.alloc (.cells #[l, v] 40)) w.heap.size l v := heap_alloc_new w _
theorem any_miss {t : Bool} {A : Nat} {row : List SymM} : (row.any (missB t A) = false → ∀ x ∈ row, SymOk t (fun n => A.testBit n = true) x) ∧ (row.any (missB t A) = true → ∃ x ∈ row, ¬ SymOk t (fun n => A.testBit n = true) x) := by
  constructor
  · intro h x hx
    have := List.any_eq_false.1 h x hx
    unfold missB at this
    refine ⟨fun e => ?_, fun e => ?_⟩
    · rw [if_pos e] at this; simpa using this
    · rw [if_neg e] at this; simpa using this
  · intro h
    obtain ⟨x, hx, hm⟩ := List.any_eq_true.1 h
    refine ⟨x, hx, fun hs => ?_⟩
    unfold missB at hm
    by_cases e : x.1 = 3
    · rw [if_pos e] at hm
      have := hs.1 e
      simp only at this
      rw [this] at hm
      simp at hm
    · rw [if_neg e] at hm
      rw [hs.2 e] at hm
      simp at hm
/-- All productions of a spec are within its names, which are at most 128. -/
def ProdOk (p : ProdM) : Prop := (0 ≤ p.1 ∧ p.1 < 128) ∧ ∀ x ∈ p.2, NamesOk x
def MkI (t : Bool) (ps : List ProdM) (A d : Nat) (W : World) (vi : Value) (wr : World) : Prop := ∃ j A' : Nat, vi = .int .i64 (j : Int) ∧ j ≤ ps.length ∧ Hid (MkStep t ps A A' j) ∧ Hid (SetB wr d A') ∧ Hid (KeptBut d W wr)
set_option linter.unusedSimpArgs false in
set_option maxRecDepth 100000 in
set_option maxHeartbeats 4000000 in
theorem mkStep_is (t : Bool) (d tb g A : Nat) (ps : List ProdM) (x0 x1 x2 : Value) (ap : Option Addr) (np cp : Nat) (w0 w : World) (hps : ps.length = np) (hA : SetB w d A) (hA8 : A < 2 ^ 128) (ht : OneB w tb (.bool t) 4) (hg : SBox w g x0 x1 x2 (.slice ap np cp)) (hp : ProdsAt w0 (.slice ap np cp) ps) (hk : Kept w0 w) (hd : w0.heap.size ≤ d) (htd : tb ≠ d) (hgd : g ≠ d) (hok : ∀ p ∈ ps, ProdOk p) :
    Calls Tryd.prog 75 #[.pointer (some ⟨d, 0, none⟩), .pointer (some ⟨tb, 0, none⟩), .pointer (some ⟨g, 0, none⟩)] w fun e w' => ∃ A', MkStep t ps A A' ps.length ∧ e = .returned (.bool (A' != A)) ∧ SetB w' d A' ∧ KeptBut d w w' := by
  have HPS := hide1 hps
  have HA8 := hide1 hA8
  have HP := hide1 hp
  have HK0 := hide1 hk
  have HD := hide1 hd
  have HTD := hide1 htd
  have HGD := hide1 hgd
  have HOK := hide1 hok
  obtain ⟨_, _, e1, hc, hn⟩ := hp.len
  simp only [Value.slice.injEq] at e1
  obtain ⟨rfl, en, rfl⟩ := e1
  clear en
  rw [hps] at hc hn
  have gn : (np : Int) ≤ 17592186044416 := by omega
  have HDL := hide1 hA.lt
  have HK1 : Hid (Kept w (w.alloc (.cells #[.pointer (some ⟨d, 0, none⟩)] 122))) := (Kept.refl w).alloc _ _
  have HQ := hide1 (OneB.new w (.pointer (some ⟨d, 0, none⟩)) 122)
  have HS := hide1 (hA.keep HK1.out)
  have HT := hide1 (ht.keep HK1.out)
  have HG := hide1 (hg.keep HK1.out)
  clear hps hA hA8 ht hg hp hk hd htd hgd hok
  go_enter Tryd.func75, Tryd.ntmps75
  go_upto_region 1 with fail
  obtain ⟨W, hW⟩ : ∃ W, w.alloc (.cells #[.pointer (some ⟨d, 0, none⟩)] 122) = W := ⟨_, rfl⟩
  rw [hW] at HK1 HQ HS HT HG ⊢
  clear hW
  obtain ⟨qd, hqd⟩ : ∃ qd, w.heap.size = qd := ⟨_, rfl⟩
  rw [hqd] at HQ HDL ⊢
  have HQD := hide1 hqd
  clear hqd
  have q0 := HQ.out.cell
  have a0 := HS.out.cell (i := 0) (by omega)
  have a1 := HS.out.cell (i := 1) (by omega)
  obtain ⟨s0, s1, s2, s3⟩ := HG.out.facts
  go_upto_region 2 with fail
  have HK2 := hide1 (gtrans HK1.out ((Kept.refl W).alloc (setS A) 75))
  have HQ2 := hide1 (HQ.out.keep ((Kept.refl W).alloc (setS A) 75))
  have HS2 := hide1 (HS.out.keep ((Kept.refl W).alloc (setS A) 75))
  have HT2 := hide1 (HT.out.keep ((Kept.refl W).alloc (setS A) 75))
  have HG2 := hide1 (HG.out.keep ((Kept.refl W).alloc (setS A) 75))
  have HO2 := hide1 (SetB.new W A)
  have HOB : Hid (W.heap.size ≠ d) := Nat.ne_of_gt HS.out.lt
  have HQDD : Hid (qd ≠ d) := Nat.ne_of_gt HDL.out
  rw [setS_eq] at HK2 HQ2 HS2 HT2 HG2 HO2
  clear q0 a0 a1 s0 s1 s2 s3 HK1 HQ HS HT HG HDL
  obtain ⟨W2, hW2⟩ : ∃ W2, W.alloc (.cells #[.int .u64 (wordAt A 0 : Nat), .int .u64 (wordAt A 1 : Nat)] 75) = W2 := ⟨_, rfl⟩
  rw [hW2] at HK2 HQ2 HS2 HT2 HG2 HO2 ⊢
  clear hW2
  obtain ⟨ob, hob⟩ : ∃ ob, W.heap.size = ob := ⟨_, rfl⟩
  rw [hob] at HO2 HOB ⊢
  clear hob
  obtain ⟨s0, s1, s2, s3⟩ := HG2.out.facts
  go_wp2_with fail
  clear s0 s1 s2 s3
  go_loopw [16] (MkI t ps A d W2) (fun i _ => np - (intOf i).toNat)
  case atStart => exact ⟨0, A, rfl, Nat.zero_le _, MkStep.start t ps A, HS2, but_refl d W2⟩
  case round =>
    obtain ⟨j, A1, rfl, hj, HM, HSr, HKr⟩ := hrel
    rw [HPS.out] at hj
    by_cases hlt : (j : Int) < (np : Int)
    · obtain ⟨p, hp⟩ : ∃ p, ps[j]? = some p := ⟨_, List.getElem?_eq_getElem (by have := HPS.out; omega)⟩
      have HKw := hide1 (KeptBut.up (gtrans HK0.out HK2.out) HD.out HKr.out)
      obtain ⟨cb, o2, cs, ea, hcb, hlen, hcell, v', hcs, hrt⟩ := SliceOf.el (HP.out.keep HKw.out) hp
      subst ea hcs
      have k0 := hcell 0 _ rfl
      have k1 := hcell 1 _ rfl
      have k0 : wr.cell? ⟨cb, o2 + j * 2, none⟩ = some (.int .i64 p.1) := k0
      have gjc : (j : Int) < (cp : Int) := by omega
      have HOKp := hide1 (HOK.out p (List.mem_of_getElem? hp))
      have HPJ := hide1 hp
      obtain ⟨ar, cr, rfl, hcr, hnr⟩ := hrt.len
      obtain ⟨nr, hnr2⟩ : ∃ nr, p.2.length = nr := ⟨_, rfl⟩
      rw [hnr2] at hrt hcr hnr k1
      have HRT := hide1 hrt
      have HNR := hide1 hnr2
      obtain ⟨l, hl⟩ : ∃ l : Nat, p.1 = (l : Int) := ⟨p.1.toNat, by have := HOKp.out.1.1; omega⟩
      have HLE : Hid (p.1.toNat = l) := by show _ = _; omega
      have HL : Hid (l < 128) := by have := HOKp.out.1; show _ < _; omega
      rw [hl] at k0
      clear hp hcell hrt hnr2 hl
      have HPB := hide1 (PBox.new wr (.int .i64 (l : Int)) (.slice ar nr cr))
      have HK4 : Hid (Kept wr (wr.alloc (.cells #[.int .i64 (l : Int), .slice ar nr cr] 40))) := (Kept.refl wr).alloc _ _
      have HPBD : Hid (wr.heap.size ≠ d) := Nat.ne_of_gt HSr.out.lt
      go_upto_region 6 with fail
      clear k0 k1
      obtain ⟨W4, hW4⟩ : ∃ W4, wr.alloc (.cells #[.int .i64 (l : Int), .slice ar nr cr] 40) = W4 := ⟨_, rfl⟩
      rw [hW4] at HPB HK4 ⊢
      clear hW4
      obtain ⟨pb, hpb⟩ : ∃ pb, wr.heap.size = pb := ⟨_, rfl⟩
      rw [hpb] at HPB HPBD ⊢
      clear hpb
      have p1 := HPB.out.cells.2
      have HS4 := hide1 (HSr.out.keep HK4.out)
      have HQ4 := hide1 ((HQ2.out.but HKr.out HQDD.out).keep HK4.out)
      have HT4 := hide1 ((HT2.out.but HKr.out HTD.out).keep HK4.out)
      have HC : Hid (∀ b, p.2.any (missB t A1) = b → Calls Tryd.prog 77 #[.slice ar nr cr, .func (.func 76) #[] #[.pointer (some ⟨qd, 0, none⟩), .pointer (some ⟨tb, 0, none⟩)]] W4 fun e w' => e = .returned (.bool b) ∧ Kept W4 w') := fun b hb =>
        containsSym_is 76 _ (missB t A1) ar nr cr p.2 HNR.out b hb W4 (HRT.out.keep HK4.out) (fun x hx wr' hk' => missing_is qd tb d A1 t x wr' (HOKp.out.2 x hx) (HQ4.out.keep hk') (HT4.out.keep hk') (HS4.out.keep hk')) (enters_of Tryd.func76 (by kernel_rfl) rfl)
      cases hany : p.2.any (missB t A1) with
      | true =>
        have HC2 := hide1 (HC.out true hany)
        obtain ⟨x, hx, hnx⟩ := any_miss.2 hany
        have HM2 := hide1 (HM.out.skip HPJ.out hx hnx)
        clear hany hx hnx HC
        go_wp2_with (go_at_call 77; refine HC2.out.mono ?_; rintro e w6 ⟨rfl, hk6⟩; have HK6 := hide1 (gtrans HK4.out hk6); clear hk6)
        go_roundw
        case rel => exact ⟨j + 1, A1, by go_num, by rw [HPS.out]; omega, HM2, HSr.out.keep HK6.out, HKr.out.trans (HK6.out.but d)⟩
        case measure => simp [intOf]; omega
      | false =>
        have HC2 := hide1 (HC.out false hany)
        have HM2 := hide1 (HM.out.put HPJ.out (any_miss.1 hany) (by rw [HLE.out]; exact HL.out))
        rw [HLE.out] at HM2
        clear hany HC
        go_upto_region 7 with (go_at_call 77; refine HC2.out.mono ?_; rintro e W5 ⟨rfl, hk6⟩; have HK6 := hide1 hk6; clear hk6)
        clear p1 HC2
        have HPB := hide1 (HPB.out.keep HK6.out)
        have HS5 := hide1 (HS4.out.keep HK6.out)
        have HQ5 := hide1 (HQ4.out.keep HK6.out)
        have HK5 := hide1 (gtrans HK4.out HK6.out)
        refine wp_region_held_drew (S := fun X => KeptBut d W5 X) (by kernel_rfl) (but_refl d W5) (fun hHeld => ?_)
        refine wpAnyH_take (i := 0) (v := .pointer (some ⟨d, 0, none⟩)) rfl (by kernel_rfl) (by kernel_rfl) (by kernel_rfl) (fun _ _ _ h => h) (Or.inl ⟨by rfl, fun w' hSw => ?_⟩) (by with_reducible assumption) ?_
        · have s0 := (HQ5.out.but hSw HQDD.out).cell
          clear hSw
          go_simp
        try simp only [Act.put, List.setIfInBounds_toArray, List.set_cons_zero, List.set_cons_succ]
        refine wpAnyH_take (i := 1) (v := .pointer (some ⟨d, 0, none⟩)) rfl (by kernel_rfl) (by kernel_rfl) (by kernel_rfl) (fun _ _ _ h => h) (Or.inl ⟨by rfl, fun w' hSw => ?_⟩) (by with_reducible assumption) ?_
        · have s0 := (HQ5.out.but hSw HQDD.out).cell
          clear hSw
          go_simp
        try simp only [Act.put, List.setIfInBounds_toArray, List.set_cons_zero, List.set_cons_succ]
        refine wpAnyH_take (i := 2) (v := .pointer (some ⟨d, 0, none⟩)) rfl (by kernel_rfl) (by kernel_rfl) (by kernel_rfl) (fun _ _ _ h => h) (Or.inl ⟨by rfl, fun w' hSw => ?_⟩) (by with_reducible assumption) ?_
        · clear hSw
          go_simp
        try simp only [Act.put, List.setIfInBounds_toArray, List.set_cons_zero, List.set_cons_succ]
        refine wpAnyH_take (i := 4) (v := .pointer (some ⟨pb, 0, none⟩)) rfl (by kernel_rfl) (by kernel_rfl) (by kernel_rfl) (fun _ _ _ h => h) (Or.inl ⟨by rfl, fun w' hSw => ?_⟩) (by with_reducible assumption) ?_
        · clear hSw
          go_simp
        try simp only [Act.put, List.setIfInBounds_toArray, List.set_cons_zero, List.set_cons_succ]
        refine wpAnyH_take (i := 5) (v := .int .i64 (l : Int)) rfl (by kernel_rfl) (by kernel_rfl) (by kernel_rfl) (fun _ _ _ h => h) (Or.inl ⟨by rfl, fun w' hSw => ?_⟩) (by with_reducible assumption) ?_
        · have s0 := (PBox.but HPB.out hSw HPBD.out).cells.1
          clear hSw
          go_simp
        try simp only [Act.put, List.setIfInBounds_toArray, List.set_cons_zero, List.set_cons_succ]
        refine wpAnyH_ready (rs := [3]) (by kernel_rfl) (by simp) ?_
        refine AllReadyH.cons (i := 3) rfl (fun K hK => ?_) AllReadyH.nil
        have a0 : W5.drew.cell? ⟨d, 0, none⟩ = some (.int .u64 (wordAt A1 0 : Nat)) := HS5.out.cell (i := 0) (by omega)
        have a1 : W5.drew.cell? ⟨d, 1, none⟩ = some (.int .u64 (wordAt A1 1 : Nat)) := HS5.out.cell (i := 1) (by omega)
        go_simp
        clear a0 a1
        refine hK.out _ _ hHeld (fun hHeld2 => ?_)
        clear hK K hHeld
        have hHeld := hHeld2
        clear hHeld2
        try simp only [Act.put, List.setIfInBounds_toArray, List.set_cons_zero, List.set_cons_succ]
        refine wpAnyH_ready (rs := [6]) (by kernel_rfl) (by simp) ?_
        refine AllReadyH.cons (i := 6) rfl (fun K hK => ?_) AllReadyH.nil
        go_simp
        go_wp2_with (go_at_call 58; refine (sWith_is A1 l HL.out _).mono ?_; rintro e w7 ⟨rfl, hk7⟩; rw [setS_eq]; have HK7 := hide1 (gtrans (drew_kept W5) hk7); clear hk7)
        refine hK.out _ _ (HK7.out.but d) (fun hHeld2 => ?_)
        clear hK K hHeld
        have hHeld := hHeld2
        clear hHeld2
        try simp only [Act.put, List.setIfInBounds_toArray, List.set_cons_zero, List.set_cons_succ]
        refine wpAnyH_take (i := 7) (v := .pointer (some ⟨d, 0, none⟩)) rfl (by kernel_rfl) (by kernel_rfl) (by kernel_rfl) (fun _ _ _ h => h) (Or.inl ⟨by rfl, fun w' hSw => ?_⟩) (by with_reducible assumption) ?_
        · clear hSw
          go_simp
        try simp only [Act.put, List.setIfInBounds_toArray, List.set_cons_zero, List.set_cons_succ]
        refine wpAnyH_ready (rs := [8]) (by kernel_rfl) (by simp) ?_
        refine AllReadyH.cons (i := 8) rfl (fun K hK => ?_) AllReadyH.nil
        have HS7 := hide1 (HS5.out.keep HK7.out)
        have a0 := HS7.out.cell (i := 0) (by omega)
        have a1 := HS7.out.cell (i := 1) (by omega)
        have z0 := HS7.out.free 0
        have z1 := HS7.out.free 1
        go_simp
        clear a0 a1 z0 z1
        have HS8 := hide1 (HS7.out.fill (B := A1 ||| 2 ^ l))
        have HK8 : Hid (KeptBut d W5 ((w7.setCell ⟨d, 0, none⟩ (.int .u64 (wordAt (A1 ||| 2 ^ l) 0 : Nat))).setCell ⟨d, 1, none⟩ (.int .u64 (wordAt (A1 ||| 2 ^ l) 1 : Nat)))) := but_set (but_set (HK7.out.but d) _ _) _ _
        refine hK.out _ _ HK8.out (fun hHeld2 => ?_)
        clear hK K hHeld
        have hHeld := hHeld2
        clear hHeld2
        try simp only [Act.put, List.setIfInBounds_toArray, List.set_cons_zero, List.set_cons_succ]
        refine wpAnyH_done (by kernel_rfl) ?_ _
        clear hHeld
        go_wp2_with fail
        go_roundw
        case rel => exact ⟨j + 1, _, by go_num, by rw [HPS.out]; omega, HM2, HS8, HKr.out.trans ((HK5.out.but d).trans HK8.out)⟩
        case measure => simp [intOf]; omega
    · have hjn : j = ps.length := by have := HPS.out; omega
      have HM2 : Hid (MkStep t ps A A1 ps.length) := hjn ▸ HM
      have HSO := hide1 (HO2.out.but HKr.out HOB.out)
      have q0 := (HQ2.out.but HKr.out HQDD.out).cell
      have a0 := HSr.out.cell (i := 0) (by omega)
      have a1 := HSr.out.cell (i := 1) (by omega)
      have b0 := HSO.out.cell (i := 0) (by omega)
      have b1 := HSO.out.cell (i := 1) (by omega)
      have hne := neq_set (HM2.out.bound HA8.out) HA8.out
      go_upto_region 9 with fail
      go_quiet (fail)
      go_wp2_with fail
      go_ret
      exact ⟨A1, HM2.out, rfl, HSr.out, ((HK2.out.but d).trans HKr.out).trans ((drewN_kept _ _).but d)⟩

end Ex
end Go.Proofs.YtooelfjceehmmaaDoor
namespace Go.Proofs.YtooelfjceehmmaaDoor
open Go.RowKit
attribute [local go_sem] Oper.semAt_some
namespace Ex

/-- The set that lies in a block, read off the world. -/
def rdSet (d : Nat) (w : World) : Nat := match w.heap[d]? with | some (.cells cs _ _) => (intOf (cs.getD 0 undef)).toNat + (intOf (cs.getD 1 undef)).toNat * 2 ^ 64 | _ => 0
theorem SetB.rd {w : World} {d A : Nat} (h : SetB w d A) (hA : A < 2 ^ 128) : rdSet d w = A := by
  unfold SetB at h
  unfold rdSet
  rw [h]
  show (intOf (.int .u64 (wordAt A 0 : Nat))).toNat + (intOf (.int .u64 (wordAt A 1 : Nat))).toNat * 2 ^ 64 = A
  show ((wordAt A 0 : Nat) : Int).toNat + ((wordAt A 1 : Nat) : Int).toNat * 2 ^ 64 = A
  rw [Int.toNat_natCast, Int.toNat_natCast]
  unfold wordAt
  simp only [Nat.mul_zero, Nat.pow_zero, Nat.div_one, Nat.mul_one]
  omega
/-- The loop of least. -/
def LsI (R : Nat → Prop) (w : World) (wr : World) : Prop := ∃ A, Hid (R A) ∧ Hid (SetB wr w.heap.size A) ∧ Hid (SetB wr (w.heap.size + 1) 0) ∧ Hid (Kept w wr)
set_option linter.unusedSimpArgs false in
set_option maxRecDepth 100000 in
set_option maxHeartbeats 4000000 in
theorem leastSet_is (f : Nat) (bs : Array Value) (A0 : Nat) (R Fin : Nat → Prop) (w : World) (h0 : R A0) (hR : ∀ A, R A → A < 2 ^ 128) (ef : ∀ args w, (callFunc f args).run Tryd.prog w = .ok (.enter f args) w)
    (hf : ∀ A wr, R A → SetB wr w.heap.size A → Kept w wr → Calls Tryd.prog f (#[.pointer (some ⟨w.heap.size, 0, none⟩)] ++ bs) wr fun e w' => ∃ A', R A' ∧ (∀ n, A.testBit n = true → A'.testBit n = true) ∧ (A' = A → Fin A) ∧ e = .returned (.bool (A' != A)) ∧ SetB w' w.heap.size A' ∧ KeptBut w.heap.size wr w') :
    Calls Tryd.prog 74 #[.agg (setS A0), .func (.func f) #[] bs] w fun e w' => ∃ A, R A ∧ Fin A ∧ e = .returned (.agg (setS A)) ∧ Kept w w' := by
  have H0 := hide1 h0
  have HR := hide1 hR
  have HF := hide1 hf
  obtain ⟨h1, h2, h3⟩ := set_two w A0
  have HS1 := hide1 h1
  have HS2 := hide1 h2
  have HK := hide1 h3
  clear h0 hR hf h1 h2 h3
  go_enter Tryd.func74, Tryd.ntmps74
  go_upto_region 1 with fail
  go_loopw [] (LsI R w) (fun wr => leftS (rdSet w.heap.size wr))
  case atStart => exact ⟨A0, H0, HS2, HS1, HK⟩
  case round =>
    obtain ⟨A, HA, HSA, HSZ, HKr⟩ := hrel
    have HC := hide1 (HF.out A wr HA.out HSA.out HKr.out)
    have hef := ef
    go_wp2_with fail
    refine HC.out.mono ?_
    rintro e w6 ⟨A', hr6, hu6, hf6, rfl, hs6, hk6⟩
    have HR6 := hide1 hr6
    have HU6 := hide1 hu6
    have HF6 := hide1 hf6
    have HS6 := hide1 hs6
    have HK6 := hide1 hk6
    have HZ6 := hide1 (HSZ.out.but hk6 (by omega))
    have HKK := hide1 (KeptBut.up HKr.out (Nat.le_refl _) hk6)
    clear hr6 hu6 hf6 hs6 hk6
    by_cases hne : A' = A
    · have hb : (A' != A) = false := by simp [hne]
      rw [hb]
      have HFA := hide1 (HF6.out hne)
      clear hb
      rw [hne] at HS6 HR6
      clear hne
      have c0 := HS6.out.cell (i := 0) (by omega)
      have c1 := HS6.out.cell (i := 1) (by omega)
      have r0 := HZ6.out.cell (i := 0) (by omega)
      have r1 := HZ6.out.cell (i := 1) (by omega)
      have z0 := HZ6.out.free 0
      have z1 := HZ6.out.free 1
      go_wp2_with fail
      refine bodyPost_ret (results_cell_row rfl _ _ (w.heap.size + 1) 75 (setS A) (0, 0) _ rfl HZ6.out.fill Tryd.underlying75 rfl (set2_size _)) rfl ?_
      exact ⟨A, HR6.out, HFA.out, rfl, keepB (keepB HKK.out (by omega)) (by omega)⟩
    · have hb : (A' != A) = true := by simpa using hne
      rw [hb]
      have HNE := hide1 hne
      clear hb hne
      go_wp2_with fail
      go_roundw
      case rel => exact ⟨A', HR6, HS6, HZ6, HKK⟩
      case measure =>
        rw [HS6.out.rd (HR.out _ HR6.out), HSA.out.rd (HR.out _ HA.out)]
        exact leftS_lt HU6.out (HR.out _ HA.out) (HR.out _ HR6.out) (fun e => HNE.out e.symm)
set_option linter.unusedSimpArgs false in
set_option maxRecDepth 100000 in
set_option maxHeartbeats 4000000 in
theorem making_is (t : Bool) (ps : List ProdM) (x0 x1 x2 : Value) (ap : Option Addr) (np cp : Nat) (w : World) (hps : ps.length = np) (hp : ProdsAt w (.slice ap np cp) ps) (hok : ∀ p ∈ ps, ProdOk p) :
    Calls Tryd.prog 43 #[.agg #[x0, x1, x2, .slice ap np cp], .bool t] w fun e w' => ∃ A, e = .returned (.agg (setS A)) ∧ (∀ n, A.testBit n = true ↔ Mk t ps n) ∧ A < 2 ^ 128 ∧ Kept w w' := by
  have HK1 : Hid (Kept w (w.alloc (.cells #[x0, x1, x2, .slice ap np cp] 26))) := (Kept.refl w).alloc _ _
  have HB1 := hide1 (SBox.new w x0 x1 x2 (.slice ap np cp))
  have HK2 : Hid (Kept (w.alloc (.cells #[x0, x1, x2, .slice ap np cp] 26)) ((w.alloc (.cells #[x0, x1, x2, .slice ap np cp] 26)).alloc (.cells #[.bool t] 4))) := (Kept.refl _).alloc _ _
  have HB2 := hide1 (OneB.new (w.alloc (.cells #[x0, x1, x2, .slice ap np cp] 26)) (.bool t) 4)
  have HK3 : Hid (Kept ((w.alloc (.cells #[x0, x1, x2, .slice ap np cp] 26)).alloc (.cells #[.bool t] 4)) (((w.alloc (.cells #[x0, x1, x2, .slice ap np cp] 26)).alloc (.cells #[.bool t] 4)).alloc (.cells #[.int .u64 0, .int .u64 0] 75))) := (Kept.refl _).alloc _ _
  have HB3 : Hid (SetB (((w.alloc (.cells #[x0, x1, x2, .slice ap np cp] 26)).alloc (.cells #[.bool t] 4)).alloc (.cells #[.int .u64 0, .int .u64 0] 75)) ((w.alloc (.cells #[x0, x1, x2, .slice ap np cp] 26)).alloc (.cells #[.bool t] 4)).heap.size 0) := heap_alloc_new _ _
  rw [World.size_alloc] at HB2
  rw [World.size_alloc, World.size_alloc] at HB3
  have HP := hide1 hp
  have HPS := hide1 hps
  have HOK := hide1 hok
  clear hp hps hok
  go_enter Tryd.func43, Tryd.ntmps43
  go_upto_region 1 with fail
  obtain ⟨W1, hW1⟩ : ∃ W1, w.alloc (.cells #[x0, x1, x2, .slice ap np cp] 26) = W1 := ⟨_, rfl⟩
  rw [hW1] at HK1 HB1 HK2 HB2 HK3 HB3 ⊢
  obtain ⟨W2, hW2⟩ : ∃ W2, W1.alloc (.cells #[.bool t] 4) = W2 := ⟨_, rfl⟩
  rw [hW2] at HK2 HB2 HK3 HB3 ⊢
  obtain ⟨W3, hW3⟩ : ∃ W3, W2.alloc (.cells #[.int .u64 0, .int .u64 0] 75) = W3 := ⟨_, rfl⟩
  rw [hW3] at HK3 HB3 ⊢
  clear hW1 hW2 hW3
  obtain ⟨b, hb⟩ : ∃ b, w.heap.size = b := ⟨_, rfl⟩
  rw [hb] at HB1 HB2 HB3 ⊢
  have HB := hide1 hb
  clear hb
  have HL3 := hide1 HB3.out.lt
  have HKW := hide1 (gtrans HK1.out (gtrans HK2.out HK3.out))
  have HB13 := hide1 (HB1.out.keep (gtrans HK2.out HK3.out))
  have HB23 := hide1 (HB2.out.keep HK3.out)
  have HC := hide1 (leastSet_is 75 #[.pointer (some ⟨b + 1, 0, none⟩), .pointer (some ⟨b, 0, none⟩)] 0 (fun A => A < 2 ^ 128 ∧ ∀ n, A.testBit n = true → Mk t ps n) (fun A => MkStep t ps A A ps.length) W3 ⟨by decide, fun n h => by simp at h⟩ (fun A h => h.1) (enters_of Tryd.func75 (by kernel_rfl) rfl)
    (fun A wr hR hS hk => (mkStep_is t W3.heap.size (b + 1) b A ps x0 x1 x2 ap np cp W3 wr HPS.out hS hR.1 (HB23.out.keep hk) (HB13.out.keep hk) (HP.out.keep HKW.out) hk (Nat.le_refl _) (by have := HL3.out; omega) (by have := HL3.out; omega) HOK.out).mono (by
      rintro e w' ⟨A', hm, he, hs, hk'⟩
      exact ⟨A', ⟨hm.bound hR.1, hm.sound hR.2⟩, hm.up, fun e => e ▸ hm, he, hs, hk'⟩)))
  go_wp2_with (go_at_call 74; refine HC.out.mono ?_; rintro e w6 ⟨A, hr6, hf6, rfl, hk6⟩; rw [setS_eq]; have HR6 := hide1 hr6; have HF6 := hide1 hf6; have HK6 := hide1 hk6; have HZ6 := hide1 (HB3.out.keep hk6); have r0 := HZ6.out.cell (i := 0) (by omega); have r1 := HZ6.out.cell (i := 1) (by omega); have z0 := HZ6.out.free 0; have z1 := HZ6.out.free 1; clear hr6 hf6 hk6)
  refine bodyPost_ret (results_cell_row rfl _ _ (b + 1 + 1) 75 (setS A) (0, 0) _ rfl HZ6.out.fill Tryd.underlying75 rfl (set2_size _)) rfl ?_
  exact ⟨A, rfl, mk_is HR6.out.2 HF6.out.done, HR6.out.1, keepB (keepB (gtrans HKW.out HK6.out) (by rw [HB.out]; omega)) (by rw [HB.out]; omega)⟩

end Ex
end Go.Proofs.YtooelfjceehmmaaDoor
namespace Go.Proofs.YtooelfjceehmmaaDoor
open Go.RowKit
attribute [local go_sem] Oper.semAt_some
namespace Ex

/-- A fault in a box. -/
def FlBox (w : World) (b : Nat) (e a : Int) : Prop := w.heap[b]? = some (.cells #[.int .i64 e, .int .i64 a, .string ⟨#[]⟩] 44 (0, 0))
def faultV (x : Int × Int) : Value := .agg #[.int .i64 x.1, .int .i64 x.2, .string ⟨#[]⟩]
theorem FlBox.cells {w : World} {b : Nat} {e a : Int} (h : FlBox w b e a) : (w.cell? ⟨b, 0, none⟩ = some (.int .i64 e) ∧ w.cell? ⟨b, 1, none⟩ = some (.int .i64 a) ∧ w.cell? ⟨b, 2, none⟩ = some (.string ⟨#[]⟩)) ∧ w.frozen? ⟨b, 0, none⟩ = false ∧ w.frozen? ⟨b, 1, none⟩ = false ∧ w.frozen? ⟨b, 2, none⟩ = false := by
  unfold FlBox at h
  refine ⟨⟨?_, ?_, ?_⟩, ?_, ?_, ?_⟩ <;> simp [World.cell?, World.frozen?, h]
theorem FlBox.lt {w : World} {b : Nat} {e a : Int} (h : FlBox w b e a) : b < w.heap.size := (Array.getElem?_eq_some_iff.1 h).1
theorem FlBox.keep {w w' : World} {b : Nat} {e a : Int} (h : FlBox w b e a) (hk : Kept w w') : FlBox w' b e a := (hk.2.2.2.2 b h.lt).trans h
theorem FlBox.new (w : World) : FlBox (w.alloc (.cells #[.int .i64 0, .int .i64 0, .string ⟨#[]⟩] 44)) w.heap.size 0 0 := heap_alloc_new w _
theorem FlBox.fill {w : World} {b : Nat} {e a : Int} (h : FlBox w b e a) (e2 a2 : Int) : FlBox (((w.setCell ⟨b, 0, none⟩ (.int .i64 e2)).setCell ⟨b, 1, none⟩ (.int .i64 a2)).setCell ⟨b, 2, none⟩ (.string ⟨#[]⟩)) b e2 a2 := by
  unfold FlBox at h ⊢
  have hl : b < w.heap.size := (Array.getElem?_eq_some_iff.1 h).1
  have he : w.heap[b] = Obj.cells #[.int .i64 e, .int .i64 a, .string ⟨#[]⟩] 44 (0, 0) := by rw [Array.getElem?_eq_getElem hl] at h; exact Option.some.inj h
  simp [World.setCell, Array.getElem_modify, hl, he]
theorem fault_size (e a : Int) : (Tryd.prog.info? 44).map (·.size) = some (#[Value.int .i64 e, Value.int .i64 a, Value.string ⟨#[]⟩]).size := by
  show _ = some 3
  kernel_rfl
/-- What every check of a fault makes at its entry: the spec's box and the answer's. -/
theorem chk_start (w : World) (x0 x1 x2 x3 : Value) : SBox ((w.alloc (.cells #[x0, x1, x2, x3] 26)).alloc (.cells #[.int .i64 0, .int .i64 0, .string ⟨#[]⟩] 44)) w.heap.size x0 x1 x2 x3 ∧ FlBox ((w.alloc (.cells #[x0, x1, x2, x3] 26)).alloc (.cells #[.int .i64 0, .int .i64 0, .string ⟨#[]⟩] 44)) (w.heap.size + 1) 0 0 ∧ Kept w ((w.alloc (.cells #[x0, x1, x2, x3] 26)).alloc (.cells #[.int .i64 0, .int .i64 0, .string ⟨#[]⟩] 44)) := by
  refine ⟨(SBox.new w x0 x1 x2 x3).keep ((Kept.refl _).alloc _ _), ?_, ((Kept.refl w).alloc _ _).alloc _ _⟩
  have h := FlBox.new (w.alloc (.cells #[x0, x1, x2, x3] 26))
  rw [World.size_alloc] at h
  exact h
/-- The first of n numbers of which P does not hold; or none. -/
def FirstMiss (P : Nat → Prop) (n : Nat) (err : Int) (x : Int × Int) : Prop := (∃ i, i < n ∧ ¬ P i ∧ (∀ k, k < i → P k) ∧ x = (err, (i : Int))) ∨ ((∀ k, k < n → P k) ∧ x = (0, 0))
theorem FirstMiss.one {P P' : Nat → Prop} {n : Nat} {err : Int} {x y : Int × Int} (hP : ∀ k, k < n → (P k ↔ P' k)) (hx : FirstMiss P n err x) (hy : FirstMiss P' n err y) : x = y := by
  rcases hx with ⟨i, hi, hni, hbi, rfl⟩ | ⟨ha, rfl⟩
  · rcases hy with ⟨j, hj, hnj, hbj, rfl⟩ | ⟨hb, rfl⟩
    · have : i = j := by
        rcases Nat.lt_trichotomy i j with h | h | h
        · exact absurd ((hP i hi).2 (hbj i h)) hni
        · exact h
        · exact absurd ((hP j hj).1 (hbi j h)) hnj
      rw [this]
    · exact absurd ((hP i hi).2 (hb i hi)) hni
  · rcases hy with ⟨j, hj, hnj, hbj, rfl⟩ | ⟨hb, rfl⟩
    · exact absurd ((hP j hj).1 (ha j hj)) hnj
    · rfl
/-- A fault is answered, of which Q holds, and all memory stays. -/
def FaultR (Q : Int × Int → Prop) (w : World) (e : Ending) (w' : World) : Prop := ∃ x, e = .returned (faultV x) ∧ Q x ∧ Kept w w'
def SnI (A : Nat) (W : World) (vi : Value) (wr : World) : Prop := ∃ j : Nat, vi = .int .i64 (j : Int) ∧ Hid (∀ k, k < j → A.testBit k = true) ∧ Hid (Kept W wr)
set_option linter.unusedSimpArgs false in
set_option maxRecDepth 100000 in
set_option maxHeartbeats 4000000 in
theorem checkSentences_is (ps : List ProdM) (x0 x2 : Value) (an ap : Option Addr) (nn cn np cp : Nat) (w : World) (hnn : nn ≤ 128) (hps : ps.length = np) (hp : ProdsAt w (.slice ap np cp) ps) (hok : ∀ p ∈ ps, ProdOk p) :
    Calls Tryd.prog 53 #[.agg #[x0, .slice an nn cn, x2, .slice ap np cp]] w (FaultR (FirstMiss (Mk true ps) nn 73) w) := by
  obtain ⟨h1, h2, h3⟩ := chk_start w x0 (.slice an nn cn) x2 (.slice ap np cp)
  have HB := hide1 h1
  have HF := hide1 h2
  have HK := hide1 h3
  have HP := hide1 hp
  have HPS := hide1 hps
  have HOK := hide1 hok
  have gn : (nn : Int) ≤ 128 := by omega
  clear h1 h2 h3 hp hps hok
  go_enter Tryd.func53, Tryd.ntmps53
  go_upto_region 1 with fail
  obtain ⟨W, hW⟩ : ∃ W, (w.alloc (.cells #[x0, .slice an nn cn, x2, .slice ap np cp] 26)).alloc (.cells #[.int .i64 0, .int .i64 0, .string ⟨#[]⟩] 44) = W := ⟨_, rfl⟩
  rw [hW] at HB HF HK ⊢
  clear hW
  obtain ⟨b, hb⟩ : ∃ b, w.heap.size = b := ⟨_, rfl⟩
  rw [hb] at HB HF ⊢
  have HSZ := hide1 hb
  clear hb
  obtain ⟨s0, s1, s2, s3⟩ := HB.out.facts
  go_upto_region 2 with (go_at_call 43; refine (making_is true ps x0 (.slice an nn cn) x2 ap np cp _ HPS.out (HP.out.keep HK.out) HOK.out).mono ?_; rintro e w6 ⟨A, rfl, ha6, hb6, hk6⟩; rw [setS_eq]; have HA6 := hide1 ha6; have HK6 := hide1 hk6; clear ha6 hk6 hb6)
  clear s0 s1 s2 s3
  have HKA : Hid (Kept w6 (w6.alloc (.cells #[.int .u64 (wordAt A 0 : Nat), .int .u64 (wordAt A 1 : Nat)] 75))) := (Kept.refl _).alloc _ _
  have HSA := hide1 (SetB.new w6 A)
  rw [setS_eq] at HSA
  obtain ⟨W7, hW7⟩ : ∃ W7, w6.alloc (.cells #[.int .u64 (wordAt A 0 : Nat), .int .u64 (wordAt A 1 : Nat)] 75) = W7 := ⟨_, rfl⟩
  rw [hW7] at HKA HSA ⊢
  clear hW7
  obtain ⟨sb, hsb⟩ : ∃ sb, w6.heap.size = sb := ⟨_, rfl⟩
  rw [hsb] at HSA ⊢
  clear hsb
  have HK7 := hide1 (gtrans HK.out (gtrans HK6.out HKA.out))
  have HF7 := hide1 (HF.out.keep (gtrans HK6.out HKA.out))
  obtain ⟨s0, s1, s2, s3⟩ := (HB.out.keep (gtrans HK6.out HKA.out)).facts
  go_wp2_with fail
  clear s0 s1 s2 s3
  go_loopw [10] (SnI A W7) (fun i _ => nn - (intOf i).toNat)
  case atStart => exact ⟨0, rfl, fun k hk => by omega, Kept.refl W7⟩
  case round =>
    obtain ⟨j, rfl, HJ, HKr⟩ := hrel
    obtain ⟨⟨f0, f1, f2⟩, z0, z1, z2⟩ := (HF7.out.keep HKr.out).cells
    by_cases hlt : (j : Int) < (nn : Int)
    · have a0 := (HSA.out.keep HKr.out).cell (i := 0) (by omega)
      have a1 := (HSA.out.keep HKr.out).cell (i := 1) (by omega)
      have HJ8 : Hid (j < 128) := by show _ < _; omega
      cases hbit : A.testBit j with
      | true =>
        have HBT := hide1 hbit
        clear hbit f0 f1 f2 z0 z1 z2
        go_wp2_with (go_at_call 44; refine (sHas_is A j HJ8.out _).mono ?_; rintro e w8 ⟨rfl, hk8⟩; rw [HBT.out]; have HK8 := hide1 (gtrans HKr.out hk8); clear hk8)
        go_roundw
        case rel => exact ⟨j + 1, by go_num, fun k hk => (by rcases Nat.lt_or_ge k j with h | h; exact HJ.out k h; rw [show k = j by omega]; exact HBT.out), HK8⟩
        case measure => simp [intOf]; omega
      | false =>
        have HBT := hide1 hbit
        clear hbit f0 f1 f2 z0 z1 z2
        go_wp2_with (go_at_call 44; refine (sHas_is A j HJ8.out _).mono ?_; rintro e w8 ⟨rfl, hk8⟩; rw [HBT.out]; have HK8 := hide1 (gtrans HKr.out hk8); have HF8 := hide1 (HF7.out.keep HK8.out); obtain ⟨⟨f0, f1, f2⟩, z0, z1, z2⟩ := HF8.out.cells; clear hk8)
        refine bodyPost_ret (results_cell_row rfl _ _ (b + 1) 44 _ (0, 0) _ rfl (HF8.out.fill 73 (j : Int)) Tryd.underlying44 rfl (fault_size _ _)) rfl ?_
        refine ⟨(73, (j : Int)), rfl, .inl ⟨j, by omega, fun h => ?_, fun k hk => (HA6.out k).1 (HJ.out k hk), rfl⟩, keepB (keepB (keepB (gtrans HK7.out HK8.out) (by rw [HSZ.out]; omega)) (by rw [HSZ.out]; omega)) (by rw [HSZ.out]; omega)⟩
        have := (HA6.out j).2 h
        rw [HBT.out] at this
        cases this
    · go_wp2_with fail
      refine bodyPost_ret (results_cell_row rfl _ _ (b + 1) 44 _ (0, 0) _ rfl ((HF7.out.keep HKr.out).fill 0 0) Tryd.underlying44 rfl (fault_size _ _)) rfl ?_
      exact ⟨(0, 0), rfl, .inr ⟨fun k hk => (HA6.out k).1 (HJ.out k (by omega)), rfl⟩, keepB (keepB (keepB (gtrans HK7.out HKr.out) (by rw [HSZ.out]; omega)) (by rw [HSZ.out]; omega)) (by rw [HSZ.out]; omega)⟩

end Ex
end Go.Proofs.YtooelfjceehmmaaDoor
