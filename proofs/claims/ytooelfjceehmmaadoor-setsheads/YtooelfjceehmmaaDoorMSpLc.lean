import Derived.Test.YtooelfjceehmmaaDoorMSpKp
import Derived.Test.YtooelfjceehmmaaDoorMSpDg
import Derived.Test.YtooelfjceehmmaaDoorMSpQf
import Derived.Test.YtooelfjceehmmaaDoorMSpYz
import Derived.Test.YtooelfjceehmmaaDoorMSpHc
import Derived.Test.YtooelfjceehmmaaDoorMSpLs
namespace Go.Proofs.YtooelfjceehmmaaDoor
open Go.RowKit
attribute [local go_sem] Oper.semAt_some
namespace Ex

section
variable {k : Nat} {lex : List (LexM k)} {ps : List ProdM} {nn nl : Nat} {st xe xa : Int} {e : Ending} {w w' : World}
end
set_option linter.unusedSimpArgs false in
set_option maxRecDepth 100000 in
set_option maxHeartbeats 4000000 in
theorem fault7_is (xe xa : Int) (hz : xe = 0 → xa = 0) (w : World) : Calls Tryd.prog 17 #[.int .i64 xa, .int .i64 xe] w fun e w' => e = .returned (.agg #[.int .i64 xe, .int .i64 xa, .string ⟨#[]⟩]) ∧ Kept w w' := by
  have HK : Hid (Kept w (w.alloc (.cells #[.int .i64 0, .int .i64 0, .string ⟨#[]⟩] 44))) := (Kept.refl w).alloc _ _
  have HF := hide1 (FlBox.new w)
  go_enter Tryd.func17, Tryd.ntmps17
  go_upto_region 1 with fail
  obtain ⟨W, hW⟩ : ∃ W, w.alloc (.cells #[.int .i64 0, .int .i64 0, .string ⟨#[]⟩] 44) = W := ⟨_, rfl⟩
  rw [hW] at HK HF ⊢
  clear hW
  obtain ⟨b, hb⟩ : ∃ b, w.heap.size = b := ⟨_, rfl⟩
  rw [hb] at HF ⊢
  have HSB := hide1 hb
  clear hb
  obtain ⟨⟨f0, f1, f2⟩, z0, z1, z2⟩ := HF.out.cells
  by_cases hx : xe = 0
  · obtain rfl := hx
    obtain rfl := hz rfl
    clear hz
    go_wp2_with fail
    refine bodyPost_ret (results_cell_row rfl _ _ b 44 _ (0, 0) _ rfl (HF.out.fill 0 0) Tryd.underlying44 rfl (fault_size _ _)) rfl ?_
    exact ⟨rfl, keepB (keepB (keepB HK.out (by rw [HSB.out]; omega)) (by rw [HSB.out]; omega)) (by rw [HSB.out]; omega)⟩
  · have b0 : (xe == 0) = false := by simpa using hx
    clear hx hz
    go_wp2_with fail
    refine bodyPost_ret (results_cell_row rfl _ _ b 44 _ (0, 0) _ rfl (HF.out.fill xe xa) Tryd.underlying44 rfl (fault_size _ _)) rfl ?_
    exact ⟨rfl, keepB (keepB (keepB HK.out (by rw [HSB.out]; omega)) (by rw [HSB.out]; omega)) (by rw [HSB.out]; omega)⟩
theorem lex_sizes {k : Nat} {w : World} {v : Value} {lex : List (LexM k)} (h : LexAt w k v lex) : ∀ l ∈ lex, l.1.size ≤ 200000000000000 := by
  obtain ⟨a, cap, h1, h2, h3, h4⟩ := h
  intro l hl
  rcases h4 with h4 | ⟨c, o, h5, h6, h7⟩
  · subst h4; cases hl
  · obtain ⟨i, hi⟩ := List.getElem?_of_mem hl
    obtain ⟨cs, g1, g2, v2, g3, g4, g5⟩ := h7 i l hi
    exact g4
theorem fl_new (w : World) (xe xa : Int) : FlBox (w.alloc (.cells #[.int .i64 xe, .int .i64 xa, .string ⟨#[]⟩] 44)) w.heap.size xe xa ∧ Kept w (w.alloc (.cells #[.int .i64 xe, .int .i64 xa, .string ⟨#[]⟩] 44)) := ⟨heap_alloc_new w _, (Kept.refl w).alloc _ _⟩

end Ex
end Go.Proofs.YtooelfjceehmmaaDoor
namespace Go.Proofs.YtooelfjceehmmaaDoor
open Go.RowKit
attribute [local go_sem] Oper.semAt_some
namespace Ex

theorem run_tab2 (n : Nat) (hn : n ≤ 64) (w : World) : (Instr.makeSlice 27 (.int .i64 ((n : Int) + 2)) (.int .i64 ((n : Int) + 2))).run Tryd.prog w = .ok (.slice (some ⟨w.heap.size, 0, none⟩) (n + 2) (n + 2)) (w.alloc (.cells (Array.replicate (n + 2) (.bool false)) 4)) := by
  have h := run_tab (n + 2) (by omega) w
  rw [show ((n + 2 : Nat) : Int) = (n : Int) + 2 by omega] at h
  rw [h]
  simp
theorem tab_rep (n : Nat) (w : World) : TabB (w.alloc (.cells (Array.replicate n (.bool false)) 4)) w.heap.size (List.replicate n false) := by
  unfold TabB
  rw [heap_alloc_new]
  simp
set_option linter.unusedSimpArgs false in
set_option maxRecDepth 100000 in
set_option maxHeartbeats 4000000 in
/-- The document's empty set of terminals. -/
theorem dNone_is (al : Option Addr) (nl cl : Nat) (x1 x2 x3 : Value) (w : World) (hnl : nl ≤ 64) :
    Calls Tryd.prog 36 #[.agg #[.slice al nl cl, x1, x2, x3]] w fun e w' => ∃ g, e = .returned (.slice (some ⟨g, 0, none⟩) (nl + 2) (nl + 2)) ∧ w.heap.size ≤ g ∧ TabB w' g (List.replicate (nl + 2) false) ∧ Kept w w' := by
  have HK1 : Hid (Kept w (w.alloc (.cells #[.slice al nl cl, x1, x2, x3] 26))) := (Kept.refl w).alloc _ _
  have HB1 := hide1 (SBox.new w (.slice al nl cl) x1 x2 x3)
  have gl : (nl : Int) ≤ 64 := by omega
  go_enter Tryd.func36, Tryd.ntmps36
  go_upto_region 1 with fail
  obtain ⟨W, hW⟩ : ∃ W, w.alloc (.cells #[.slice al nl cl, x1, x2, x3] 26) = W := ⟨_, rfl⟩
  rw [hW] at HK1 HB1 ⊢
  clear hW
  obtain ⟨b, hb⟩ : ∃ b, w.heap.size = b := ⟨_, rfl⟩
  rw [hb] at HB1 ⊢
  clear hb
  obtain ⟨s0, s1, s2, s3⟩ := HB1.out.facts
  have hmk := run_tab2 nl hnl W
  go_wp2_with fail
  go_ret
  exact ⟨W.heap.size, rfl, HK1.out.size, tab_rep _ W, gtrans HK1.out ((Kept.refl _).alloc _ _)⟩
/-- The set b can be read: it is empty, or a table of its own apart from ga. -/
def RdTab (w : World) (ga : Nat) (bp : Option Addr) (ns : List Bool) : Prop := ns = [] ∨ ∃ gb, bp = some ⟨gb, 0, none⟩ ∧ gb ≠ ga ∧ TabB w gb ns
def AddR (ga m : Nat) (ms ns : List Bool) (w : World) (e : Ending) (w' : World) : Prop := ∃ (zs : List Bool) (fl : Bool), zs.length = m ∧ bitsOf zs = bitsOf ms ||| bitsOf ns ∧ e = .returned (.bool fl) ∧ (fl = true ↔ bitsOf zs ≠ bitsOf ms) ∧ TabB w' ga zs ∧ KeptBut ga w w'
def AdI (ms ns : List Bool) (ga : Nat) (W : World) (vf vi : Value) (wr : World) : Prop := ∃ (j : Nat) (zs : List Bool) (fl : Bool), vf = .bool fl ∧ vi = .int .i64 (j : Int) ∧ j ≤ ns.length ∧ Hid (zs.length = ms.length) ∧ Hid (∀ t, (bitsOf zs).testBit t = ((bitsOf ms).testBit t || (decide (t < j) && (bitsOf ns).testBit t))) ∧ Hid ((fl = false → zs = ms) ∧ (fl = true → bitsOf zs ≠ bitsOf ms)) ∧ Hid (TabB wr ga zs) ∧ Hid (KeptBut ga W wr)
theorem bits_at {l : List Bool} {n : Nat} {x : Bool} (h : l[n]? = some x) : (bitsOf l).testBit n = x := by rw [bits_test, List.getD_eq_getElem?_getD, h]; rfl
theorem bits_past {l : List Bool} {n : Nat} (h : l.length ≤ n) : (bitsOf l).testBit n = false := by rw [bits_test, List.getD_eq_getElem?_getD, List.getElem?_eq_none h]; rfl
theorem ad_next {ms ns zs : List Bool} {j : Nat} {x : Bool} (hx : ns[j]? = some x) (h : ∀ t, (bitsOf zs).testBit t = ((bitsOf ms).testBit t || (decide (t < j) && (bitsOf ns).testBit t))) (hz : x = true → (bitsOf zs).testBit j = true) : ∀ t, (bitsOf zs).testBit t = ((bitsOf ms).testBit t || (decide (t < j + 1) && (bitsOf ns).testBit t)) := by
  intro t
  by_cases e : t = j
  · subst e
    have h1 := h t
    have h2 := bits_at hx
    rw [h2]
    cases x with
    | true => rw [hz rfl]; simp
    | false => rw [h1, h2]; simp
  · rw [h t, show decide (t < j + 1) = decide (t < j) by simp only [decide_eq_decide]; omega]
theorem ad_put {ms ns zs : List Bool} {j : Nat} (hj : j < zs.length) (hx : ns[j]? = some true) (h : ∀ t, (bitsOf zs).testBit t = ((bitsOf ms).testBit t || (decide (t < j) && (bitsOf ns).testBit t))) : ∀ t, (bitsOf (zs.set j true)).testBit t = ((bitsOf ms).testBit t || (decide (t < j + 1) && (bitsOf ns).testBit t)) := by
  intro t
  rw [bits_set hj, Bool.eq_iff_iff, testBit_with, h t]
  by_cases e : t = j
  · subst e
    rw [bits_at hx]
    simp
  · rw [show decide (t < j + 1) = decide (t < j) by simp only [decide_eq_decide]; omega]
    simp [e]
set_option linter.unusedSimpArgs false in
set_option maxRecDepth 100000 in
set_option maxHeartbeats 4000000 in
/-- The document's Add: b's terminals are put into a. -/
theorem dAdd_is (ga : Nat) (ms ns : List Bool) (bp : Option Addr) (m ca n cb : Nat) (w : World) (hm : ms.length = m) (hn : ns.length = n) (hmn : n ≤ m) (hm64 : m ≤ 66) (hca : m ≤ ca) (hcb : n ≤ cb) (hA : TabB w ga ms) (hB : RdTab w ga bp ns) :
    Calls Tryd.prog 71 #[.slice (some ⟨ga, 0, none⟩) m ca, .slice bp n cb] w (AddR ga m ms ns w) := by
  have HA := hide1 hA
  have HB := hide1 hB
  have HM := hide1 hm
  have HN := hide1 hn
  have gmn : (n : Int) ≤ (m : Int) := by omega
  have gm : (m : Int) ≤ 66 := by omega
  clear hA hB
  go_enter Tryd.func71, Tryd.ntmps71
  go_wp2_with fail
  go_loopw [5, 6] (AdI ms ns ga w) (fun _ i _ => n - (intOf i).toNat)
  case atStart => exact ⟨0, ms, false, rfl, rfl, Nat.zero_le _, rfl, (by intro t; simp), ⟨fun _ => rfl, fun h => (by cases h)⟩, HA, but_refl ga w⟩
  case round =>
    obtain ⟨j, zs, fl, rfl, rfl, hj, HZL, HZ, HFL, HTA, HKr⟩ := hrel
    rw [HN.out] at hj
    by_cases hlt : (j : Int) < (n : Int)
    · obtain ⟨x, hx⟩ : ∃ x, ns[j]? = some x := ⟨_, List.getElem?_eq_getElem (by have := HN.out; omega)⟩
      obtain ⟨gb, rfl, hgb, hTB⟩ : ∃ gb, bp = some ⟨gb, 0, none⟩ ∧ gb ≠ ga ∧ TabB w gb ns := by
        rcases HB.out with h | h
        · rw [h] at hx; simp at hx
        · exact h
      have c0 := (hTB.but HKr.out hgb).cell hx
      obtain ⟨y, hy⟩ : ∃ y, zs[j]? = some y := ⟨_, List.getElem?_eq_getElem (by have := HZL.out; have := HM.out; omega)⟩
      have c1 := HTA.out.cell hy
      have z1 := HTA.out.free j
      have gjc : (j : Int) < (cb : Int) := by omega
      have gja : (j : Int) < (m : Int) := by omega
      have gjca : (j : Int) < (ca : Int) := by omega
      have HX := hide1 hx
      have HY := hide1 hy
      clear hx hy hTB hgb
      cases x with
      | false =>
        have HZ2 := hide1 (ad_next HX.out HZ.out (fun h => by cases h))
        go_wp2_with fail
        go_roundw
        case rel => exact ⟨j + 1, zs, fl, rfl, by go_num, by rw [HN.out]; omega, HZL, HZ2, HFL, HTA, HKr⟩
        case measure => simp [intOf]; omega
      | true =>
        cases y with
        | true =>
          have HZ2 := hide1 (ad_next HX.out HZ.out (fun _ => bits_at HY.out))
          go_wp2_with fail
          go_roundw
          case rel => exact ⟨j + 1, zs, fl, rfl, by go_num, by rw [HN.out]; omega, HZL, HZ2, HFL, HTA, HKr⟩
          case measure => simp [intOf]; omega
        | false =>
          have HJL : Hid (j < zs.length) := (List.getElem?_eq_some_iff.1 HY.out).1
          have HZ2 := hide1 (ad_put HJL.out HX.out HZ.out)
          have HNE : Hid (bitsOf (zs.set j true) ≠ bitsOf ms) := by
            intro e
            have h1 := HZ2.out j
            have h2 := bits_at HY.out
            have h3 := HZ.out j
            rw [e, bits_at HX.out] at h1
            rw [h2] at h3
            simp at h1 h3
            rw [h1] at h3
            cases h3
          go_wp2_with fail
          go_roundw
          case rel => exact ⟨j + 1, zs.set j true, true, rfl, by go_num, by rw [HN.out]; omega, (by show _ = _; rw [List.length_set]; exact HZL.out), HZ2, ⟨fun h => (by cases h), fun _ => HNE.out⟩, HTA.out.set, but_set HKr.out _ _⟩
          case measure => simp [intOf]; omega
    · have hjn : j = n := by omega
      go_wp2_with fail
      go_ret
      refine ⟨zs, fl, by rw [HZL.out]; exact HM.out, ?_, rfl, ?_, HTA.out, HKr.out⟩
      · refine Nat.eq_of_testBit_eq (fun t => ?_)
        rw [HZ.out t, Nat.testBit_or]
        by_cases ht : t < j
        · simp [ht]
        · rw [bits_past (l := ns) (by rw [HN.out]; omega)]
          simp
      · cases fl with
        | true => exact ⟨fun _ => HFL.out.2 rfl, fun _ => rfl⟩
        | false => exact ⟨fun h => (by cases h), fun h => absurd (by rw [HFL.out.1 rfl]) h⟩
theorem grown_ownE {w0 W w' : World} {v : Value} {l : List Int} {c : Array Value} {t : TypeId} {base : Nat} (h : Kept w0 W) (hb : w0.heap.size ≤ base) (ho : IntsO W base v l) (hg : (W.alloc (.cells c t)).grownBy w' v.ownBlock) : Kept w0 w' :=
  ⟨hg.os.trans h.1, hg.tape.trans h.2.1, hg.output.trans h.2.2.1, Nat.le_trans h.size (Nat.le_trans (allocS_le W _) hg.size), fun d hd => (hg.block d (by simp; have := h.size; omega) (fun e => by have := (ho.lt d e.symm).1; omega)).trans ((heap_alloc_old W _ (Nat.lt_of_lt_of_le hd h.size)).trans (h.2.2.2.2 d hd))⟩
def DlsI (ms : List Bool) (W : World) (vl vi : Value) (wr : World) : Prop := ∃ (j n : Nat), vi = .int .i64 (j : Int) ∧ j ≤ ms.length ∧ (∃ a c, vl = .slice a n c) ∧ Hid ((bitsTo (bitsOf ms) j).length = n) ∧ Hid (IntsO wr W.heap.size vl (bitsTo (bitsOf ms) j)) ∧ Hid (Kept W wr)
set_option linter.unusedSimpArgs false in
set_option maxRecDepth 100000 in
set_option maxHeartbeats 4000000 in
/-- The document's List of a set. -/
theorem dList_is (g : Nat) (ms : List Bool) (m c : Nat) (w : World) (hm : ms.length = m) (hm64 : m ≤ 66) (hc : m ≤ c) (hT : TabB w g ms) :
    Calls Tryd.prog 41 #[.slice (some ⟨g, 0, none⟩) m c] w fun e w' => (∃ v, e = .returned v ∧ IntsO w' w.heap.size v (bitsTo (bitsOf ms) m)) ∧ Kept w w' := by
  have HT := hide1 hT
  have HM := hide1 hm
  have gm : (m : Int) ≤ 66 := by omega
  clear hT
  go_enter Tryd.func41, Tryd.ntmps41
  go_wp2_with fail
  go_loopw [3, 4] (DlsI ms w) (fun _ i _ => m - (intOf i).toNat)
  case atStart => exact ⟨0, 0, rfl, Nat.zero_le _, ⟨none, 0, rfl⟩, rfl, IntsO.nil _ _, Kept.refl w⟩
  case round =>
    obtain ⟨j, n, rfl, hj, ⟨a, cc, rfl⟩, HNL, HO, HKr⟩ := hrel
    rw [HM.out] at hj
    by_cases hlt : (j : Int) < (m : Int)
    · obtain ⟨x, hx⟩ : ∃ x, ms[j]? = some x := ⟨_, List.getElem?_eq_getElem (by have := HM.out; omega)⟩
      have c0 := (HT.out.keep HKr.out).cell hx
      have gjc : (j : Int) < (c : Int) := by omega
      have HX := hide1 (bits_at hx)
      clear hx
      cases x with
      | false =>
        have HBN : Hid (bitsTo (bitsOf ms) (j + 1) = bitsTo (bitsOf ms) j) := bitsTo_none _ j 1 (fun i h1 h2 => by rw [show i = j by omega]; exact HX.out)
        go_wp2_with fail
        go_roundw
        case rel => exact ⟨j + 1, n, by go_num, by rw [HM.out]; omega, ⟨a, cc, rfl⟩, (by show _ = _; rw [HBN.out]; exact HNL.out), (by show IntsO _ _ _ _; rw [HBN.out]; exact HO.out), HKr⟩
        case measure => simp [intOf]; omega
      | true =>
        have HE := hide1 (bitsTo_one (bitsOf ms) j HX.out)
        have HLE : Hid ((bitsTo (bitsOf ms) j).length ≤ 8388608) := by have := bitsTo_len (bitsOf ms) j; show _ ≤ _; omega
        go_wp2_with (at_builtin; go_must (refine wpl_ints rfl _ _ rfl _ w.heap.size _ _ n HNL.out (by rfl) (HO.out.keep (w' := wr.alloc (.cells #[.int .i64 (j : Int)] 3)) ((Kept.refl wr).alloc _ _)) wr.heap.size (j : Int) (by rfl) (heap_alloc_new wr _) HLE.out (by exact Nat.le_trans HKr.out.size (allocS_le wr _)) ?_; intro g9 c9 w9 ho9 hg9 hor9 hl9; have HO9 := hide1 ho9; have HK9 := hide1 (grown_ownE HKr.out (Nat.le_refl _) HO.out hg9); clear ho9 hg9 hor9 hl9))
        go_roundw
        case rel =>
          refine ⟨j + 1, n + 1, by go_num, by rw [HM.out]; omega, ⟨_, _, rfl⟩, ?_, ?_, HK9⟩
          · show _ = _
            rw [HE.out, List.length_append, HNL.out]
            rfl
          · show IntsO _ _ _ _
            rw [HE.out]
            exact HO9.out
        case measure => simp [intOf]; omega
    · have hjm : j = m := by omega
      subst hjm
      go_wp2_with fail
      go_ret
      exact ⟨⟨_, rfl, HO.out⟩, HKr.out⟩

end Ex
end Go.Proofs.YtooelfjceehmmaaDoor
