import Derived.Test.YtooelfjceehmmaaDoorMSpDb
namespace Go.Proofs.YtooelfjceehmmaaDoor
open Go.RowKit
attribute [local go_sem] Oper.semAt_some
namespace Ex

/-- The inner loop of productive. -/
def DqJ (ps : List ProdM) (nn A g : Nat) (W : World) (vf vi : Value) (wr : World) : Prop := ∃ (j : Nat) (ms : List Bool) (fl : Bool), vf = .bool fl ∧ vi = .int .i64 (j : Int) ∧ j ≤ ps.length ∧ Hid (ms.length = nn) ∧ Hid (MkStep true ps A (bitsOf ms) j) ∧ Hid ((fl = false → bitsOf ms = A) ∧ (fl = true → bitsOf ms ≠ A)) ∧ Hid (TabB wr g ms) ∧ Hid (KeptBut g W wr)
def DqI (ps : List ProdM) (nn g : Nat) (W : World) (vf : Value) (wr : World) : Prop := ∃ (ms : List Bool) (fl : Bool), vf = .bool fl ∧ Hid (ms.length = nn) ∧ Hid (∀ n, (bitsOf ms).testBit n = true → Mk true ps n) ∧ Hid (fl = false → MkStep true ps (bitsOf ms) (bitsOf ms) ps.length) ∧ Hid (TabB wr g ms) ∧ Hid (KeptBut g W wr)
def DqK (ms : List Bool) (W : World) (vi : Value) (wr : World) : Prop := ∃ j : Nat, vi = .int .i64 (j : Int) ∧ Hid (∀ k, k < j → (bitsOf ms).testBit k = true) ∧ Hid (wr = W)
/-- A place and an error are answered, of which Q holds. -/
def PairR (Q : Int × Int → Prop) (w : World) (e : Ending) (w' : World) : Prop := ∃ x : Int × Int, e = .returned (.tuple #[.int .i64 x.2, .int .i64 x.1]) ∧ Q x ∧ Kept w w'
set_option linter.unusedSimpArgs false in
set_option maxRecDepth 100000 in
set_option maxHeartbeats 8000000 in
theorem dProductive_is (ps : List ProdM) (x0 x2 : Value) (an ap : Option Addr) (nn cn np cp : Nat) (w : World) (hnn : nn ≤ 128) (hps : ps.length = np) (hp : ProdsAt w (.slice ap np cp) ps) (hok : ∀ p ∈ ps, (0 ≤ p.1 ∧ p.1 < (nn : Int)) ∧ ∀ x ∈ p.2, x.1 = 3 → 0 ≤ x.2 ∧ x.2 < (nn : Int)) :
    Calls Tryd.prog 69 #[.agg #[x0, .slice an nn cn, x2, .slice ap np cp]] w (PairR (FirstMiss (Mk true ps) nn 73) w) := by
  have HK1 : Hid (Kept w (w.alloc (.cells #[x0, .slice an nn cn, x2, .slice ap np cp] 26))) := (Kept.refl w).alloc _ _
  have HB1 := hide1 (SBox.new w x0 (.slice an nn cn) x2 (.slice ap np cp))
  have HP := hide1 hp
  have HPS := hide1 hps
  have HOK := hide1 hok
  have HNN := hide1 hnn
  obtain ⟨_, _, e1, hc, hn⟩ := hp.len
  simp only [Value.slice.injEq] at e1
  obtain ⟨rfl, en, rfl⟩ := e1
  clear en
  rw [hps] at hc hn
  have gn : (nn : Int) ≤ 128 := by omega
  have gp : (np : Int) ≤ 17592186044416 := by omega
  clear hp hps hok
  go_enter Tryd.func69, Tryd.ntmps69
  go_upto_region 1 with fail
  obtain ⟨W1, hW1⟩ : ∃ W1, w.alloc (.cells #[x0, .slice an nn cn, x2, .slice ap np cp] 26) = W1 := ⟨_, rfl⟩
  rw [hW1] at HK1 HB1 ⊢
  clear hW1
  obtain ⟨b, hb⟩ : ∃ b, w.heap.size = b := ⟨_, rfl⟩
  rw [hb] at HB1 ⊢
  have HSB := hide1 hb
  clear hb
  obtain ⟨s0, s1, s2, s3⟩ := HB1.out.facts
  have hmk := run_tab nn (by omega) W1
  go_upto_region 2 with fail
  clear s0 s1 s2 s3 hmk
  have HK2 : Hid (Kept W1 (W1.alloc (.cells (Array.replicate nn (.bool false)) 4))) := (Kept.refl _).alloc _ _
  have HT2 : Hid (TabB (W1.alloc (.cells (Array.replicate nn (.bool false)) 4)) W1.heap.size (List.replicate nn false)) := by
    show TabB _ _ _
    unfold TabB
    rw [heap_alloc_new]
    simp
  have HGB : Hid (b < W1.heap.size) := HB1.out.lt
  have HWG : Hid (w.heap.size ≤ W1.heap.size) := HK1.out.size
  obtain ⟨W, hW⟩ : ∃ W, W1.alloc (.cells (Array.replicate nn (.bool false)) 4) = W := ⟨_, rfl⟩
  rw [hW] at HK2 HT2 ⊢
  clear hW
  obtain ⟨g, hg⟩ : ∃ g, W1.heap.size = g := ⟨_, rfl⟩
  rw [hg] at HT2 HGB HWG ⊢
  clear hg
  have HKW := hide1 (gtrans HK1.out HK2.out)
  have HBW := hide1 (HB1.out.keep HK2.out)
  clear HK1 HK2 HB1
  go_wp2_with fail
  go_loopw [5] (DqI ps nn g W) (fun f wr => 2 * leftS (rdTab g wr) + flagN f)
  case atStart => exact ⟨List.replicate nn false, true, rfl, List.length_replicate, fun n h => (by rw [bits_false] at h; simp at h), fun h => (by cases h), HT2, but_refl g W⟩
  case round =>
    obtain ⟨ms, fl, rfl, HML, HSO, HFI, HTr, HKr⟩ := hrel
    obtain ⟨A, hA⟩ : ∃ A, bitsOf ms = A := ⟨_, rfl⟩
    have HA := hide1 hA
    have HA8 : Hid (A < 2 ^ 128) := by
      have h1 := bits_lt ms
      rw [hA, HML.out] at h1
      exact Nat.lt_of_lt_of_le h1 (Nat.pow_le_pow_right (by decide) HNN.out)
    clear hA
    cases fl with
    | true =>
      go_wp2_with fail
      go_loopw [5, 6] (DqJ ps nn A g W) (fun _ i _ => np - (intOf i).toNat)
      case atStart => exact ⟨0, ms, false, rfl, rfl, Nat.zero_le _, HML, (by rw [HA.out]; exact MkStep.start true ps A), ⟨fun _ => HA.out, fun h => (by cases h)⟩, HTr, HKr⟩
      case round =>
        obtain ⟨j, ns, f2, rfl, rfl, hj, HNL, HM, HFL, HTj, HKj⟩ := hrel
        rw [HPS.out] at hj
        have HBj := hide1 (HBW.out.but HKj.out (by have := HGB.out; omega))
        obtain ⟨s0, s1, s2, s3⟩ := HBj.out.facts
        by_cases hlt : (j : Int) < (np : Int)
        · obtain ⟨p, hp⟩ : ∃ p, ps[j]? = some p := ⟨_, List.getElem?_eq_getElem (by have := HPS.out; omega)⟩
          have HKw := hide1 (KeptBut.up HKW.out HWG.out HKj.out)
          obtain ⟨cb, o2, cs, ea, hcb, hlen, hcell, v', hcs, hrt⟩ := SliceOf.el (HP.out.keep HKw.out) hp
          subst ea hcs
          have k0 : wr.cell? ⟨cb, o2 + j * 2, none⟩ = some (.int .i64 p.1) := hcell 0 _ rfl
          have k1 := hcell 1 _ rfl
          have gjc : (j : Int) < (cp : Int) := by omega
          have HOKp := hide1 (HOK.out p (List.mem_of_getElem? hp))
          have HPJ := hide1 hp
          obtain ⟨ar, cr, rfl, hcr, hnr⟩ := hrt.len
          obtain ⟨nr, hnr2⟩ : ∃ nr, p.2.length = nr := ⟨_, rfl⟩
          rw [hnr2] at hrt hcr hnr k1
          have HNR := hide1 hnr2
          have HRT := hide1 hrt
          obtain ⟨l, hl⟩ : ∃ l : Nat, p.1 = (l : Int) := ⟨p.1.toNat, by have := HOKp.out.1.1; omega⟩
          have HLE : Hid (p.1.toNat = l) := by show _ = _; omega
          have gln : (l : Int) < (nn : Int) := by have := HOKp.out.1; omega
          rw [hl] at k0
          clear hp hcell hrt hnr2 hl
          have HPB := hide1 (PBox.new wr (.int .i64 (l : Int)) (.slice ar nr cr))
          have HK4 : Hid (Kept wr (wr.alloc (.cells #[.int .i64 (l : Int), .slice ar nr cr] 40))) := (Kept.refl wr).alloc _ _
          go_upto_region 9 with fail
          clear k0 k1 s0 s1 s2 s3
          obtain ⟨W4, hW4⟩ : ∃ W4, wr.alloc (.cells #[.int .i64 (l : Int), .slice ar nr cr] 40) = W4 := ⟨_, rfl⟩
          rw [hW4] at HPB HK4 ⊢
          clear hW4
          obtain ⟨pb, hpb⟩ : ∃ pb, wr.heap.size = pb := ⟨_, rfl⟩
          rw [hpb] at HPB ⊢
          clear hpb
          obtain ⟨p0, p1⟩ := HPB.out.cells
          have HT4 := hide1 (HTj.out.keep HK4.out)
          obtain ⟨y, hy⟩ : ∃ y, ns[l]? = some y := ⟨_, List.getElem?_eq_getElem (by have := HNL.out; omega)⟩
          have c0 := HT4.out.cell hy
          have HBIT : Hid ((bitsOf ns).testBit l = y) := by
            show _ = _
            rw [bits_test, List.getD_eq_getElem?_getD, hy]
            rfl
          clear hy
          cases y with
          | true =>
            have HM2 := hide1 (HM.out.had HPJ.out (by rw [HLE.out]; exact HBIT.out))
            go_wp2_with fail
            go_roundw
            case rel => exact ⟨j + 1, ns, f2, rfl, by go_num, by rw [HPS.out]; omega, HNL, HM2, HFL, HT4, HKj.out.trans (HK4.out.but g)⟩
            case measure => simp [intOf]; omega
          | false =>
            have HCA := hide1 (dAll_is g ns nn nn ar nr cr p.2 (l : Int) W4 HNL.out HNN.out (Nat.le_refl _) HNR.out HT4.out (HRT.out.keep HK4.out) HOKp.out.2)
            cases hany : p.2.any (missB true (bitsOf ns)) with
            | true =>
              rw [hany] at HCA
              obtain ⟨x, hx, hnx⟩ := any_miss.2 hany
              have HM2 := hide1 (HM.out.skip HPJ.out hx hnx)
              clear hany hx hnx
              go_wp2_with (go_at_call 72; refine HCA.out.mono ?_; rintro e w6 ⟨rfl, hk6⟩; have HK6 := hide1 (gtrans HK4.out hk6); clear hk6)
              go_roundw
              case rel => exact ⟨j + 1, ns, f2, rfl, by go_num, by rw [HPS.out]; omega, HNL, HM2, HFL, HTj.out.keep HK6.out, HKj.out.trans (HK6.out.but g)⟩
              case measure => simp [intOf]; omega
            | false =>
              rw [hany] at HCA
              have HLL : Hid (l < ns.length) := by have := HNL.out; show _ < _; omega
              have HM2 := hide1 (HM.out.put HPJ.out (any_miss.1 hany) (by rw [HLE.out]; have := HNN.out; omega))
              rw [HLE.out, ← bits_set HLL.out] at HM2
              have HF2 : Hid (bitsOf (ns.set l true) ≠ A) := by
                intro e
                have h1 : (bitsOf (ns.set l true)).testBit l = true := by rw [bits_set HLL.out]; exact (testBit_with _ _ _).2 (.inr rfl)
                rw [e] at h1
                have h2 := HM.out.up l h1
                rw [HBIT.out] at h2
                cases h2
              clear hany
              go_wp2_with (go_at_call 72; refine HCA.out.mono ?_; rintro e w6 ⟨rfl, hk6⟩; have HK6 := hide1 (gtrans HK4.out hk6); have HT6 := hide1 (HT4.out.keep hk6); obtain ⟨q0, q1⟩ := (HPB.out.keep hk6).cells; have z0 := HT6.out.free l; have c6 := grown_cell hk6 c0; clear hk6)
              go_roundw
              case rel => exact ⟨j + 1, ns.set l true, true, rfl, by go_num, by rw [HPS.out]; omega, (by show _ = _; rw [List.length_set]; exact HNL.out), HM2, ⟨fun h => (by cases h), fun _ => HF2.out⟩, HT6.out.set, HKj.out.trans (but_set (HK6.out.but g) _ _)⟩
              case measure => simp [intOf]; omega
        · have hjn : j = ps.length := by have := HPS.out; omega
          have HM2 : Hid (MkStep true ps A (bitsOf ns) ps.length) := hjn ▸ HM
          go_wp2_with fail
          go_roundw
          case rel =>
            refine ⟨ns, f2, rfl, HNL, fun n h => HM2.out.sound (fun n h => HSO.out n (by rw [HA.out]; exact h)) n h, fun h => ?_, HTj, HKj⟩
            have e := HFL.out.1 h
            have h2 := HM2.out
            rw [e] at h2 ⊢
            exact h2
          case measure =>
            rw [HTj.out.rd, HTr.out.rd, HA.out]
            cases f2 with
            | false => rw [HFL.out.1 rfl]; simp [flagN]
            | true =>
              have := leftS_lt HM2.out.up HA8.out (HM2.out.bound HA8.out) (fun e => HFL.out.2 rfl e.symm)
              simp [flagN]
              omega
    | false =>
      have HFN := hide1 (MkStep.docDone (HFI.out rfl) HSO.out)
      have HTn := HTr
      go_wp2_with fail
      go_loopw [8] (DqK ms wr) (fun i _ => nn - (intOf i).toNat)
      case atStart => exact ⟨0, rfl, fun k hk => by omega, rfl⟩
      case round =>
        obtain ⟨i, rfl, HI, HWI⟩ := hrel
        have hWI := HWI.out.symm
        subst hWI
        have HKw := hide1 (KeptBut.up HKW.out HWG.out HKr.out)
        by_cases hli : (i : Int) < (nn : Int)
        · obtain ⟨y, hy⟩ : ∃ y, ms[i]? = some y := ⟨_, List.getElem?_eq_getElem (by have := HML.out; omega)⟩
          have c0 := HTn.out.cell hy
          have HBIT : Hid ((bitsOf ms).testBit i = y) := by
            show _ = _
            rw [bits_test, List.getD_eq_getElem?_getD, hy]
            rfl
          clear hy
          cases y with
          | true =>
            go_wp2_with fail
            go_roundw
            case rel => exact ⟨i + 1, by go_num, fun k hk => (by rcases Nat.lt_or_ge k i with h | h; exact HI.out k h; rw [show k = i by omega]; exact HBIT.out), rfl⟩
            case measure => simp [intOf]; omega
          | false =>
            go_wp2_with fail
            go_ret2
            refine ⟨(73, (i : Int)), rfl, .inl ⟨i, by omega, fun h => ?_, fun k hk => (HFN.out k).1 (HI.out k hk), rfl⟩, HKw.out⟩
            have := (HFN.out i).2 h
            rw [HBIT.out] at this
            cases this
        · go_wp2_with fail
          go_ret2
          exact ⟨(0, 0), rfl, .inr ⟨fun k hk => (HFN.out k).1 (HI.out k (by omega)), rfl⟩, HKw.out⟩

end Ex
end Go.Proofs.YtooelfjceehmmaaDoor
namespace Go.Proofs.YtooelfjceehmmaaDoor
open Go.RowKit
attribute [local go_sem] Oper.semAt_some
namespace Ex

def DnJ (ps : List ProdM) (nn A g : Nat) (W : World) (vf vi : Value) (wr : World) : Prop := ∃ (j : Nat) (ms : List Bool) (fl : Bool), vf = .bool fl ∧ vi = .int .i64 (j : Int) ∧ j ≤ ps.length ∧ Hid (ms.length = nn) ∧ Hid (MkStep false ps A (bitsOf ms) j) ∧ Hid ((fl = false → bitsOf ms = A) ∧ (fl = true → bitsOf ms ≠ A)) ∧ Hid (TabB wr g ms) ∧ Hid (KeptBut g W wr)
def DnI (ps : List ProdM) (nn g : Nat) (W : World) (vf : Value) (wr : World) : Prop := ∃ (ms : List Bool) (fl : Bool), vf = .bool fl ∧ Hid (ms.length = nn) ∧ Hid (∀ n, (bitsOf ms).testBit n = true → Mk false ps n) ∧ Hid (fl = false → MkStep false ps (bitsOf ms) (bitsOf ms) ps.length) ∧ Hid (TabB wr g ms) ∧ Hid (KeptBut g W wr)
/-- The innermost loop of Nullable. -/
def DnK (b0 : Bool) (row : List SymM) (W : World) (ve vi : Value) (wr : World) : Prop := ∃ (m : Nat) (y : Bool), ve = .bool y ∧ vi = .int .i64 (m : Int) ∧ m ≤ row.length ∧ Hid ((b0 && (row.take m).all fun x => x.1 == 3) = y) ∧ Hid (wr = W)
theorem miss_false (A : Nat) : ∀ row : List SymM, ((!row.any (missB true A)) && row.all fun x => x.1 == 3) = !row.any (missB false A)
  | [] => rfl
  | x :: r => by
    rw [List.any_cons, List.any_cons, List.all_cons, Bool.not_or, Bool.not_or, ← miss_false A r]
    by_cases h : x.1 = 3
    · have e1 : missB true A x = missB false A x := by unfold missB; rw [if_pos h, if_pos h]
      have e2 : (x.1 == 3) = true := by rw [h]; rfl
      rw [e1, e2, Bool.true_and, Bool.and_assoc]
    · have e1 : missB false A x = true := by unfold missB; rw [if_neg h]; rfl
      have e2 : (x.1 == 3) = false := by simpa using h
      rw [e1, e2]
      simp
/-- A table is answered in new memory. -/
def NullR (ps : List ProdM) (nn : Nat) (w : World) (e : Ending) (w' : World) : Prop := ∃ (ms : List Bool) (g : Nat), e = .returned (.slice (some ⟨g, 0, none⟩) nn nn) ∧ ms.length = nn ∧ (∀ n, (bitsOf ms).testBit n = true ↔ Mk false ps n) ∧ w.heap.size ≤ g ∧ TabB w' g ms ∧ Kept w w'
set_option linter.unusedSimpArgs false in
set_option maxRecDepth 100000 in
set_option maxHeartbeats 8000000 in
theorem dNullable_is (ps : List ProdM) (x0 x2 : Value) (an ap : Option Addr) (nn cn np cp : Nat) (w : World) (hnn : nn ≤ 128) (hps : ps.length = np) (hp : ProdsAt w (.slice ap np cp) ps) (hok : ∀ p ∈ ps, (0 ≤ p.1 ∧ p.1 < (nn : Int)) ∧ ∀ x ∈ p.2, x.1 = 3 → 0 ≤ x.2 ∧ x.2 < (nn : Int)) :
    Calls Tryd.prog 40 #[.agg #[x0, .slice an nn cn, x2, .slice ap np cp]] w (NullR ps nn w) := by
  have HK1 : Hid (Kept w (w.alloc (.cells #[x0, .slice an nn cn, x2, .slice ap np cp] 26))) := (Kept.refl w).alloc _ _
  have HB1 := hide1 (SBox.new w x0 (.slice an nn cn) x2 (.slice ap np cp))
  have HP := hide1 hp
  have HPS := hide1 hps
  have HOK := hide1 hok
  have HNN := hide1 hnn
  obtain ⟨_, _, e1, hc, hn⟩ := hp.len
  simp only [Value.slice.injEq] at e1
  obtain ⟨rfl, en, rfl⟩ := e1
  clear en
  rw [hps] at hc hn
  have gn : (nn : Int) ≤ 128 := by omega
  have gp : (np : Int) ≤ 17592186044416 := by omega
  clear hp hps hok
  go_enter Tryd.func40, Tryd.ntmps40
  go_upto_region 1 with fail
  obtain ⟨W1, hW1⟩ : ∃ W1, w.alloc (.cells #[x0, .slice an nn cn, x2, .slice ap np cp] 26) = W1 := ⟨_, rfl⟩
  rw [hW1] at HK1 HB1 ⊢
  clear hW1
  obtain ⟨b, hb⟩ : ∃ b, w.heap.size = b := ⟨_, rfl⟩
  rw [hb] at HB1 ⊢
  have HSB := hide1 hb
  clear hb
  obtain ⟨s0, s1, s2, s3⟩ := HB1.out.facts
  have hmk := run_tab nn (by omega) W1
  go_upto_region 2 with fail
  clear s0 s1 s2 s3 hmk
  have HK2 : Hid (Kept W1 (W1.alloc (.cells (Array.replicate nn (.bool false)) 4))) := (Kept.refl _).alloc _ _
  have HT2 : Hid (TabB (W1.alloc (.cells (Array.replicate nn (.bool false)) 4)) W1.heap.size (List.replicate nn false)) := by
    show TabB _ _ _
    unfold TabB
    rw [heap_alloc_new]
    simp
  have HGB : Hid (b < W1.heap.size) := HB1.out.lt
  have HWG : Hid (w.heap.size ≤ W1.heap.size) := HK1.out.size
  obtain ⟨W, hW⟩ : ∃ W, W1.alloc (.cells (Array.replicate nn (.bool false)) 4) = W := ⟨_, rfl⟩
  rw [hW] at HK2 HT2 ⊢
  clear hW
  obtain ⟨g, hg⟩ : ∃ g, W1.heap.size = g := ⟨_, rfl⟩
  rw [hg] at HT2 HGB HWG ⊢
  clear hg
  have HKW := hide1 (gtrans HK1.out HK2.out)
  have HBW := hide1 (HB1.out.keep HK2.out)
  clear HK1 HK2 HB1
  go_wp2_with fail
  go_loopw [4] (DnI ps nn g W) (fun f wr => 2 * leftS (rdTab g wr) + flagN f)
  case atStart => exact ⟨List.replicate nn false, true, rfl, List.length_replicate, fun n h => (by rw [bits_false] at h; simp at h), fun h => (by cases h), HT2, but_refl g W⟩
  case round =>
    obtain ⟨ms, fl, rfl, HML, HSO, HFI, HTr, HKr⟩ := hrel
    obtain ⟨A, hA⟩ : ∃ A, bitsOf ms = A := ⟨_, rfl⟩
    have HA := hide1 hA
    have HA8 : Hid (A < 2 ^ 128) := by
      have h1 := bits_lt ms
      rw [hA, HML.out] at h1
      exact Nat.lt_of_lt_of_le h1 (Nat.pow_le_pow_right (by decide) HNN.out)
    clear hA
    cases fl with
    | true =>
      go_wp2_with fail
      go_loopw [4, 5] (DnJ ps nn A g W) (fun _ i _ => np - (intOf i).toNat)
      case atStart => exact ⟨0, ms, false, rfl, rfl, Nat.zero_le _, HML, (by rw [HA.out]; exact MkStep.start false ps A), ⟨fun _ => HA.out, fun h => (by cases h)⟩, HTr, HKr⟩
      case round =>
        obtain ⟨j, ns, f2, rfl, rfl, hj, HNL, HM, HFL, HTj, HKj⟩ := hrel
        rw [HPS.out] at hj
        have HBj := hide1 (HBW.out.but HKj.out (by have := HGB.out; omega))
        obtain ⟨s0, s1, s2, s3⟩ := HBj.out.facts
        by_cases hlt : (j : Int) < (np : Int)
        · obtain ⟨p, hp⟩ : ∃ p, ps[j]? = some p := ⟨_, List.getElem?_eq_getElem (by have := HPS.out; omega)⟩
          have HKw := hide1 (KeptBut.up HKW.out HWG.out HKj.out)
          obtain ⟨cb, o2, cs, ea, hcb, hlen, hcell, v', hcs, hrt⟩ := SliceOf.el (HP.out.keep HKw.out) hp
          subst ea hcs
          have k0 : wr.cell? ⟨cb, o2 + j * 2, none⟩ = some (.int .i64 p.1) := hcell 0 _ rfl
          have k1 := hcell 1 _ rfl
          have gjc : (j : Int) < (cp : Int) := by omega
          have HOKp := hide1 (HOK.out p (List.mem_of_getElem? hp))
          have HPJ := hide1 hp
          obtain ⟨ar, cr, rfl, hcr, hnr⟩ := hrt.len
          obtain ⟨nr, hnr2⟩ : ∃ nr, p.2.length = nr := ⟨_, rfl⟩
          rw [hnr2] at hrt hcr hnr k1
          have HNR := hide1 hnr2
          have HRT := hide1 hrt
          obtain ⟨l, hl⟩ : ∃ l : Nat, p.1 = (l : Int) := ⟨p.1.toNat, by have := HOKp.out.1.1; omega⟩
          have HLE : Hid (p.1.toNat = l) := by show _ = _; omega
          have gln : (l : Int) < (nn : Int) := by have := HOKp.out.1; omega
          rw [hl] at k0
          clear hp hcell hrt hnr2 hl
          have HPB := hide1 (PBox.new wr (.int .i64 (l : Int)) (.slice ar nr cr))
          have HK4 : Hid (Kept wr (wr.alloc (.cells #[.int .i64 (l : Int), .slice ar nr cr] 40))) := (Kept.refl wr).alloc _ _
          go_upto_region 9 with fail
          clear k0 k1 s0 s1 s2 s3
          obtain ⟨W4, hW4⟩ : ∃ W4, wr.alloc (.cells #[.int .i64 (l : Int), .slice ar nr cr] 40) = W4 := ⟨_, rfl⟩
          rw [hW4] at HPB HK4 ⊢
          clear hW4
          obtain ⟨pb, hpb⟩ : ∃ pb, wr.heap.size = pb := ⟨_, rfl⟩
          rw [hpb] at HPB ⊢
          clear hpb
          obtain ⟨p0, p1⟩ := HPB.out.cells
          have HT4 := hide1 (HTj.out.keep HK4.out)
          obtain ⟨b0, hb0⟩ : ∃ b0, (!p.2.any (missB true (bitsOf ns))) = b0 := ⟨_, rfl⟩
          have HB0 := hide1 hb0
          have HCA := hide1 (dAll_is g ns nn nn ar nr cr p.2 (l : Int) W4 HNL.out HNN.out (Nat.le_refl _) HNR.out HT4.out (HRT.out.keep HK4.out) HOKp.out.2)
          rw [hb0] at HCA
          clear hb0
          go_upto_region 10 with (go_at_call 72; refine HCA.out.mono ?_; rintro e w6 ⟨rfl, hk6⟩; have HK6 := hide1 hk6; clear hk6)
          clear p0 p1 HCA
          have HT6 := hide1 (HT4.out.keep HK6.out)
          have HPB6 := hide1 (HPB.out.keep HK6.out)
          have HRT6 := hide1 (HRT.out.keep (gtrans HK4.out HK6.out))
          have gnr : (nr : Int) ≤ 17592186044416 := by omega
          obtain ⟨p0, p1⟩ := HPB6.out.cells
          go_wp2_with fail
          go_loopw [7, 8] (DnK b0 p.2 w6) (fun _ i _ => nr - (intOf i).toNat)
          case atStart => exact ⟨0, b0, rfl, rfl, Nat.zero_le _, (by show _ = _; simp), rfl⟩
          case round =>
            obtain ⟨m, y, rfl, rfl, hm, HY, HWM⟩ := hrel
            have hWM := HWM.out.symm
            subst hWM
            rw [HNR.out] at hm
            by_cases hmt : (m : Int) < (nr : Int)
            · obtain ⟨x, hx⟩ : ∃ x, p.2[m]? = some x := ⟨_, List.getElem?_eq_getElem (by have := HNR.out; omega)⟩
              obtain ⟨cr2, or2, cs2, ea2, hcb2, hlen2, hcell2, hcs2⟩ := SliceOf.el HRT6.out hx
              have hcs2 : cs2 = [.int .i64 x.1, .int .i64 x.2] := hcs2
              subst ea2 hcs2
              have k0 : w6.cell? ⟨cr2, or2 + m * 2, none⟩ = some (.int .i64 x.1) := hcell2 0 _ rfl
              have gmc : (m : Int) < (cr : Int) := by omega
              have HY2 : Hid (∀ z, (y && (x.1 == 3)) = z → (b0 && (p.2.take (m + 1)).all fun x => x.1 == 3) = z) := by
                intro z hz
                rw [List.take_add_one, hx, List.all_append, ← Bool.and_assoc, HY.out]
                simpa using hz
              obtain ⟨kd, sn⟩ := x
              clear hx hcell2
              cases y with
              | false =>
                have HY3 := hide1 (HY2.out false rfl)
                go_wp2_with fail
                go_roundw
                case rel => exact ⟨m + 1, false, rfl, by go_num, by rw [HNR.out]; omega, HY3, rfl⟩
                case measure => simp [intOf]; omega
              | true =>
                obtain ⟨z, hz⟩ : ∃ z, (kd == 3) = z := ⟨_, rfl⟩
                have HY3 := hide1 (HY2.out z (by rw [Bool.true_and]; exact hz))
                go_wp2_with fail
                go_roundw
                case rel => exact ⟨m + 1, z, rfl, by go_num, by rw [HNR.out]; omega, HY3, rfl⟩
                case measure => simp [intOf]; omega
            · have HY3 : Hid ((!p.2.any (missB false (bitsOf ns))) = y) := by
                show _ = _
                rw [← miss_false, HB0.out, ← HY.out, List.take_of_length_le (by have := HNR.out; omega)]
              obtain ⟨yl, hyl⟩ : ∃ yl, ns[l]? = some yl := ⟨_, List.getElem?_eq_getElem (by have := HNL.out; omega)⟩
              have c0 := HT6.out.cell hyl
              have HBIT : Hid ((bitsOf ns).testBit l = yl) := by
                show _ = _
                rw [bits_test, List.getD_eq_getElem?_getD, hyl]
                rfl
              clear hyl
              have HK46 := hide1 (gtrans HK4.out HK6.out)
              cases y with
              | false =>
                have hany : p.2.any (missB false (bitsOf ns)) = true := by have := HY3.out; simpa using this
                obtain ⟨x, hx, hnx⟩ := any_miss.2 hany
                have HM2 := hide1 (HM.out.skip HPJ.out hx hnx)
                clear hany hx hnx
                go_wp2_with fail
                go_roundw
                case rel => exact ⟨j + 1, ns, f2, rfl, by go_num, by rw [HPS.out]; omega, HNL, HM2, HFL, HT6, HKj.out.trans (HK46.out.but g)⟩
                case measure => simp [intOf]; omega
              | true =>
                have hany : p.2.any (missB false (bitsOf ns)) = false := by have := HY3.out; simpa using this
                cases yl with
                | true =>
                  have HM2 := hide1 (HM.out.had HPJ.out (by rw [HLE.out]; exact HBIT.out))
                  clear hany
                  go_wp2_with fail
                  go_roundw
                  case rel => exact ⟨j + 1, ns, f2, rfl, by go_num, by rw [HPS.out]; omega, HNL, HM2, HFL, HT6, HKj.out.trans (HK46.out.but g)⟩
                  case measure => simp [intOf]; omega
                | false =>
                  have HLL : Hid (l < ns.length) := by have := HNL.out; show _ < _; omega
                  have HM2 := hide1 (HM.out.put HPJ.out (any_miss.1 hany) (by rw [HLE.out]; have := HNN.out; omega))
                  rw [HLE.out, ← bits_set HLL.out] at HM2
                  have HF2 : Hid (bitsOf (ns.set l true) ≠ A) := by
                    intro e
                    have h1 : (bitsOf (ns.set l true)).testBit l = true := by rw [bits_set HLL.out]; exact (testBit_with _ _ _).2 (.inr rfl)
                    rw [e] at h1
                    have h2 := HM.out.up l h1
                    rw [HBIT.out] at h2
                    cases h2
                  clear hany
                  have z0 := HT6.out.free l
                  go_wp2_with fail
                  go_roundw
                  case rel => exact ⟨j + 1, ns.set l true, true, rfl, by go_num, by rw [HPS.out]; omega, (by show _ = _; rw [List.length_set]; exact HNL.out), HM2, ⟨fun h => (by cases h), fun _ => HF2.out⟩, HT6.out.set, HKj.out.trans (but_set (HK46.out.but g) _ _)⟩
                  case measure => simp [intOf]; omega
        · have hjn : j = ps.length := by have := HPS.out; omega
          have HM2 : Hid (MkStep false ps A (bitsOf ns) ps.length) := hjn ▸ HM
          go_wp2_with fail
          go_roundw
          case rel =>
            refine ⟨ns, f2, rfl, HNL, fun n h => HM2.out.sound (fun n h => HSO.out n (by rw [HA.out]; exact h)) n h, fun h => ?_, HTj, HKj⟩
            have e := HFL.out.1 h
            have h2 := HM2.out
            rw [e] at h2 ⊢
            exact h2
          case measure =>
            rw [HTj.out.rd, HTr.out.rd, HA.out]
            cases f2 with
            | false => rw [HFL.out.1 rfl]; simp [flagN]
            | true =>
              have := leftS_lt HM2.out.up HA8.out (HM2.out.bound HA8.out) (fun e => HFL.out.2 rfl e.symm)
              simp [flagN]
              omega
    | false =>
      have HFN := hide1 (MkStep.docDone (HFI.out rfl) HSO.out)
      go_wp2_with fail
      go_ret
      exact ⟨ms, g, rfl, HML.out, HFN.out, HWG.out, HTr.out, KeptBut.up HKW.out HWG.out HKr.out⟩

end Ex
end Go.Proofs.YtooelfjceehmmaaDoor
