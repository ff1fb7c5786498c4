import Derived.Test.YtggodknnfpegmaaDoorMSpQl
import Derived.Deep.RegionHeld3
namespace Go.Proofs.YtggodknnfpegmaaDoor
open Go.RowKit
attribute [local go_sem] Oper.semAt_some
namespace Ex

theorem run_tab2 (n : Nat) (hn : n ≤ 64) (w : World) : (Instr.makeSlice 27 (.int .i64 ((n : Int) + 2)) (.int .i64 ((n : Int) + 2))).run Tryd.prog w = .ok (.slice (some ⟨w.heap.size, 0, none⟩) (n + 2) (n + 2)) (w.alloc (.cells (Array.replicate (n + 2) (.bool false)) 4)) := by
  have h := run_tab (n + 2) (by omega) w
  rw [show ((n + 2 : Nat) : Int) = (n : Int) + 2 by omega] at h
  rw [h]
  simp
theorem tab_rep (n : Nat) (w : World) : TabB (w.alloc (.cells (Array.replicate n (.bool false)) 4)) w.heap.size (List.replicate n false) := by
  unfold TabB
  rw [heap_alloc_new]
  simp
set_option linter.unusedSimpArgs false in
set_option maxRecDepth 100000 in
set_option maxHeartbeats 4000000 in
/-- The document's empty set of terminals. -/
theorem dNone_is (al : Option Addr) (nl cl : Nat) (x1 x2 x3 : Value) (w : World) (hnl : nl ≤ 64) :
    Calls Tryd.prog 54 #[.agg #[.slice al nl cl, x1, x2, x3]] w fun e w' => ∃ g, e = .returned (.slice (some ⟨g, 0, none⟩) (nl + 2) (nl + 2)) ∧ w.heap.size ≤ g ∧ TabB w' g (List.replicate (nl + 2) false) ∧ Kept w w' := by
  have HK1 : Hid (Kept w (w.alloc (.cells #[.slice al nl cl, x1, x2, x3] 26))) := (Kept.refl w).alloc _ _
  have HB1 := hide1 (SBox.new w (.slice al nl cl) x1 x2 x3)
  have gl : (nl : Int) ≤ 64 := by omega
  go_enter Tryd.func54, Tryd.ntmps54
  go_upto_region 1 with fail
  obtain ⟨W, hW⟩ : ∃ W, w.alloc (.cells #[.slice al nl cl, x1, x2, x3] 26) = W := ⟨_, rfl⟩
  rw [hW] at HK1 HB1 ⊢
  clear hW
  obtain ⟨b, hb⟩ : ∃ b, w.heap.size = b := ⟨_, rfl⟩
  rw [hb] at HB1 ⊢
  clear hb
  obtain ⟨s0, s1, s2, s3⟩ := HB1.out.facts
  have hmk := run_tab2 nl hnl W
  go_wp2_with fail
  go_ret
  exact ⟨W.heap.size, rfl, HK1.out.size, tab_rep _ W, gtrans HK1.out ((Kept.refl _).alloc _ _)⟩
/-- The set b can be read: it is empty, or a table of its own apart from ga. -/
def RdTab (w : World) (ga : Nat) (bp : Option Addr) (ns : List Bool) : Prop := ns = [] ∨ ∃ gb, bp = some ⟨gb, 0, none⟩ ∧ gb ≠ ga ∧ TabB w gb ns
def AddR (ga m : Nat) (ms ns : List Bool) (w : World) (e : Ending) (w' : World) : Prop := ∃ (zs : List Bool) (fl : Bool), zs.length = m ∧ bitsOf zs = bitsOf ms ||| bitsOf ns ∧ e = .returned (.bool fl) ∧ (fl = true ↔ bitsOf zs ≠ bitsOf ms) ∧ TabB w' ga zs ∧ KeptBut ga w w'
def AdI (ms ns : List Bool) (ga : Nat) (W : World) (vf vi : Value) (wr : World) : Prop := ∃ (j : Nat) (zs : List Bool) (fl : Bool), vf = .bool fl ∧ vi = .int .i64 (j : Int) ∧ j ≤ ns.length ∧ Hid (zs.length = ms.length) ∧ Hid (∀ t, (bitsOf zs).testBit t = ((bitsOf ms).testBit t || (decide (t < j) && (bitsOf ns).testBit t))) ∧ Hid ((fl = false → zs = ms) ∧ (fl = true → bitsOf zs ≠ bitsOf ms)) ∧ Hid (TabB wr ga zs) ∧ Hid (KeptBut ga W wr)
theorem bits_at {l : List Bool} {n : Nat} {x : Bool} (h : l[n]? = some x) : (bitsOf l).testBit n = x := by rw [bits_test, List.getD_eq_getElem?_getD, h]; rfl
theorem bits_past {l : List Bool} {n : Nat} (h : l.length ≤ n) : (bitsOf l).testBit n = false := by rw [bits_test, List.getD_eq_getElem?_getD, List.getElem?_eq_none h]; rfl
theorem ad_next {ms ns zs : List Bool} {j : Nat} {x : Bool} (hx : ns[j]? = some x) (h : ∀ t, (bitsOf zs).testBit t = ((bitsOf ms).testBit t || (decide (t < j) && (bitsOf ns).testBit t))) (hz : x = true → (bitsOf zs).testBit j = true) : ∀ t, (bitsOf zs).testBit t = ((bitsOf ms).testBit t || (decide (t < j + 1) && (bitsOf ns).testBit t)) := by
  intro t
  by_cases e : t = j
  · subst e
    have h1 := h t
    have h2 := bits_at hx
    rw [h2]
    cases x with
    | true => rw [hz rfl]; simp
    | false => rw [h1, h2]; simp
  · rw [h t, show decide (t < j + 1) = decide (t < j) by simp only [decide_eq_decide]; omega]
theorem ad_put {ms ns zs : List Bool} {j : Nat} (hj : j < zs.length) (hx : ns[j]? = some true) (h : ∀ t, (bitsOf zs).testBit t = ((bitsOf ms).testBit t || (decide (t < j) && (bitsOf ns).testBit t))) : ∀ t, (bitsOf (zs.set j true)).testBit t = ((bitsOf ms).testBit t || (decide (t < j + 1) && (bitsOf ns).testBit t)) := by
  intro t
  rw [bits_set hj, Bool.eq_iff_iff, testBit_with, h t]
  by_cases e : t = j
  · subst e
    rw [bits_at hx]
    simp
  · rw [show decide (t < j + 1) = decide (t < j) by simp only [decide_eq_decide]; omega]
    simp [e]
set_option linter.unusedSimpArgs false in
set_option maxRecDepth 100000 in
set_option maxHeartbeats 4000000 in
/-- The document's Add: b's terminals are put into a. -/
theorem dAdd_is (ga : Nat) (ms ns : List Bool) (bp : Option Addr) (m ca n cb : Nat) (w : World) (hm : ms.length = m) (hn : ns.length = n) (hmn : n ≤ m) (hm64 : m ≤ 66) (hca : m ≤ ca) (hcb : n ≤ cb) (hA : TabB w ga ms) (hB : RdTab w ga bp ns) :
    Calls Tryd.prog 61 #[.slice (some ⟨ga, 0, none⟩) m ca, .slice bp n cb] w (AddR ga m ms ns w) := by
  have HA := hide1 hA
  have HB := hide1 hB
  have HM := hide1 hm
  have HN := hide1 hn
  have gmn : (n : Int) ≤ (m : Int) := by omega
  have gm : (m : Int) ≤ 66 := by omega
  clear hA hB
  go_enter Tryd.func61, Tryd.ntmps61
  go_wp2_with fail
  go_loopw [5, 6] (AdI ms ns ga w) (fun _ i _ => n - (intOf i).toNat)
  case atStart => exact ⟨0, ms, false, rfl, rfl, Nat.zero_le _, rfl, (by intro t; simp), ⟨fun _ => rfl, fun h => (by cases h)⟩, HA, but_refl ga w⟩
  case round =>
    obtain ⟨j, zs, fl, rfl, rfl, hj, HZL, HZ, HFL, HTA, HKr⟩ := hrel
    rw [HN.out] at hj
    by_cases hlt : (j : Int) < (n : Int)
    · obtain ⟨x, hx⟩ : ∃ x, ns[j]? = some x := ⟨_, List.getElem?_eq_getElem (by have := HN.out; omega)⟩
      obtain ⟨gb, rfl, hgb, hTB⟩ : ∃ gb, bp = some ⟨gb, 0, none⟩ ∧ gb ≠ ga ∧ TabB w gb ns := by
        rcases HB.out with h | h
        · rw [h] at hx; simp at hx
        · exact h
      have c0 := (hTB.but HKr.out hgb).cell hx
      obtain ⟨y, hy⟩ : ∃ y, zs[j]? = some y := ⟨_, List.getElem?_eq_getElem (by have := HZL.out; have := HM.out; omega)⟩
      have c1 := HTA.out.cell hy
      have z1 := HTA.out.free j
      have gjc : (j : Int) < (cb : Int) := by omega
      have gja : (j : Int) < (m : Int) := by omega
      have gjca : (j : Int) < (ca : Int) := by omega
      have HX := hide1 hx
      have HY := hide1 hy
      clear hx hy hTB hgb
      cases x with
      | false =>
        have HZ2 := hide1 (ad_next HX.out HZ.out (fun h => by cases h))
        go_wp2_with fail
        go_roundw
        case rel => exact ⟨j + 1, zs, fl, rfl, by go_num, by rw [HN.out]; omega, HZL, HZ2, HFL, HTA, HKr⟩
        case measure => simp [intOf]; omega
      | true =>
        cases y with
        | true =>
          have HZ2 := hide1 (ad_next HX.out HZ.out (fun _ => bits_at HY.out))
          go_wp2_with fail
          go_roundw
          case rel => exact ⟨j + 1, zs, fl, rfl, by go_num, by rw [HN.out]; omega, HZL, HZ2, HFL, HTA, HKr⟩
          case measure => simp [intOf]; omega
        | false =>
          have HJL : Hid (j < zs.length) := (List.getElem?_eq_some_iff.1 HY.out).1
          have HZ2 := hide1 (ad_put HJL.out HX.out HZ.out)
          have HNE : Hid (bitsOf (zs.set j true) ≠ bitsOf ms) := by
            intro e
            have h1 := HZ2.out j
            have h2 := bits_at HY.out
            have h3 := HZ.out j
            rw [e, bits_at HX.out] at h1
            rw [h2] at h3
            simp at h1 h3
            rw [h1] at h3
            cases h3
          go_wp2_with fail
          go_roundw
          case rel => exact ⟨j + 1, zs.set j true, true, rfl, by go_num, by rw [HN.out]; omega, (by show _ = _; rw [List.length_set]; exact HZL.out), HZ2, ⟨fun h => (by cases h), fun _ => HNE.out⟩, HTA.out.set, but_set HKr.out _ _⟩
          case measure => simp [intOf]; omega
    · have hjn : j = n := by omega
      go_wp2_with fail
      go_ret
      refine ⟨zs, fl, by rw [HZL.out]; exact HM.out, ?_, rfl, ?_, HTA.out, HKr.out⟩
      · refine Nat.eq_of_testBit_eq (fun t => ?_)
        rw [HZ.out t, Nat.testBit_or]
        by_cases ht : t < j
        · simp [ht]
        · rw [bits_past (l := ns) (by rw [HN.out]; omega)]
          simp
      · cases fl with
        | true => exact ⟨fun _ => HFL.out.2 rfl, fun _ => rfl⟩
        | false => exact ⟨fun h => (by cases h), fun h => absurd (by rw [HFL.out.1 rfl]) h⟩
theorem grown_ownE {w0 W w' : World} {v : Value} {l : List Int} {c : Array Value} {t : TypeId} {base : Nat} (h : Kept w0 W) (hb : w0.heap.size ≤ base) (ho : IntsO W base v l) (hg : (W.alloc (.cells c t)).grownBy w' v.ownBlock) : Kept w0 w' :=
  ⟨hg.os.trans h.1, hg.tape.trans h.2.1, hg.output.trans h.2.2.1, Nat.le_trans h.size (Nat.le_trans (allocS_le W _) hg.size), fun d hd => (hg.block d (by simp; have := h.size; omega) (fun e => by have := (ho.lt d e.symm).1; omega)).trans ((heap_alloc_old W _ (Nat.lt_of_lt_of_le hd h.size)).trans (h.2.2.2.2 d hd))⟩
def DlsI (ms : List Bool) (W : World) (vl vi : Value) (wr : World) : Prop := ∃ (j n : Nat), vi = .int .i64 (j : Int) ∧ j ≤ ms.length ∧ (∃ a c, vl = .slice a n c) ∧ Hid ((bitsTo (bitsOf ms) j).length = n) ∧ Hid (IntsO wr W.heap.size vl (bitsTo (bitsOf ms) j)) ∧ Hid (Kept W wr)
set_option linter.unusedSimpArgs false in
set_option maxRecDepth 100000 in
set_option maxHeartbeats 4000000 in
/-- The document's List of a set. -/
theorem dList_is (g : Nat) (ms : List Bool) (m c : Nat) (w : World) (hm : ms.length = m) (hm64 : m ≤ 66) (hc : m ≤ c) (hT : TabB w g ms) :
    Calls Tryd.prog 57 #[.slice (some ⟨g, 0, none⟩) m c] w fun e w' => (∃ v, e = .returned v ∧ IntsO w' w.heap.size v (bitsTo (bitsOf ms) m)) ∧ Kept w w' := by
  have HT := hide1 hT
  have HM := hide1 hm
  have gm : (m : Int) ≤ 66 := by omega
  clear hT
  go_enter Tryd.func57, Tryd.ntmps57
  go_wp2_with fail
  go_loopw [3, 4] (DlsI ms w) (fun _ i _ => m - (intOf i).toNat)
  case atStart => exact ⟨0, 0, rfl, Nat.zero_le _, ⟨none, 0, rfl⟩, rfl, IntsO.nil _ _, Kept.refl w⟩
  case round =>
    obtain ⟨j, n, rfl, hj, ⟨a, cc, rfl⟩, HNL, HO, HKr⟩ := hrel
    rw [HM.out] at hj
    by_cases hlt : (j : Int) < (m : Int)
    · obtain ⟨x, hx⟩ : ∃ x, ms[j]? = some x := ⟨_, List.getElem?_eq_getElem (by have := HM.out; omega)⟩
      have c0 := (HT.out.keep HKr.out).cell hx
      have gjc : (j : Int) < (c : Int) := by omega
      have HX := hide1 (bits_at hx)
      clear hx
      cases x with
      | false =>
        have HBN : Hid (bitsTo (bitsOf ms) (j + 1) = bitsTo (bitsOf ms) j) := bitsTo_none _ j 1 (fun i h1 h2 => by rw [show i = j by omega]; exact HX.out)
        go_wp2_with fail
        go_roundw
        case rel => exact ⟨j + 1, n, by go_num, by rw [HM.out]; omega, ⟨a, cc, rfl⟩, (by show _ = _; rw [HBN.out]; exact HNL.out), (by show IntsO _ _ _ _; rw [HBN.out]; exact HO.out), HKr⟩
        case measure => simp [intOf]; omega
      | true =>
        have HE := hide1 (bitsTo_one (bitsOf ms) j HX.out)
        have HLE : Hid ((bitsTo (bitsOf ms) j).length ≤ 8388608) := by have := bitsTo_len (bitsOf ms) j; show _ ≤ _; omega
        go_wp2_with (at_builtin; go_must (refine wpl_ints rfl _ _ rfl _ w.heap.size _ _ n HNL.out (by rfl) (HO.out.keep (w' := wr.alloc (.cells #[.int .i64 (j : Int)] 3)) ((Kept.refl wr).alloc _ _)) wr.heap.size (j : Int) (by rfl) (heap_alloc_new wr _) HLE.out (by exact Nat.le_trans HKr.out.size (allocS_le wr _)) ?_; intro g9 c9 w9 ho9 hg9 hor9 hl9; have HO9 := hide1 ho9; have HK9 := hide1 (grown_ownE HKr.out (Nat.le_refl _) HO.out hg9); clear ho9 hg9 hor9 hl9))
        go_roundw
        case rel =>
          refine ⟨j + 1, n + 1, by go_num, by rw [HM.out]; omega, ⟨_, _, rfl⟩, ?_, ?_, HK9⟩
          · show _ = _
            rw [HE.out, List.length_append, HNL.out]
            rfl
          · show IntsO _ _ _ _
            rw [HE.out]
            exact HO9.out
        case measure => simp [intOf]; omega
    · have hjm : j = m := by omega
      subst hjm
      go_wp2_with fail
      go_ret
      exact ⟨⟨_, rfl, HO.out⟩, HKr.out⟩

end Ex
end Go.Proofs.YtggodknnfpegmaaDoor
namespace Go.Proofs.YtggodknnfpegmaaDoor
open Go.RowKit
attribute [local go_sem] Oper.semAt_some
namespace Ex

/-- A family of sets of terminals in memory: a list of tables. -/
structure FamR (w : World) (gf nl : Nat) (G : List (Nat × List Bool)) : Prop where
  cell : ∀ (i : Nat) (x : Nat × List Bool), G[i]? = some x → w.cell? ⟨gf, i, none⟩ = some (.slice (some ⟨x.1, 0, none⟩) (nl + 2) (nl + 2))
  tab : ∀ (i : Nat) (x : Nat × List Bool), G[i]? = some x → TabB w x.1 x.2 ∧ x.2.length = nl + 2
def famF (G : List (Nat × List Bool)) (i : Nat) : Nat := ((G[i]?).map fun x => bitsOf x.2).getD 0
theorem FamR.keep {w w' : World} {gf nl : Nat} {G : List (Nat × List Bool)} (h : FamR w gf nl G) (hk : Kept w w') : FamR w' gf nl G := ⟨fun i x hx => grown_cell hk (h.cell i x hx), fun i x hx => ⟨(h.tab i x hx).1.keep hk, (h.tab i x hx).2⟩⟩
theorem famF_at {G : List (Nat × List Bool)} {i : Nat} {x : Nat × List Bool} (h : G[i]? = some x) : famF G i = bitsOf x.2 := by unfold famF; rw [h]; rfl
/-- A set that can be read: none, or a table. -/
def RdSet (w : World) (bp : Option Addr) (ns : List Bool) : Prop := ns = [] ∨ ∃ gb, bp = some ⟨gb, 0, none⟩ ∧ TabB w gb ns
theorem RdSet.keep {w w' : World} {bp : Option Addr} {ns : List Bool} (h : RdSet w bp ns) (hk : Kept w w') : RdSet w' bp ns := h.imp id (fun ⟨gb, h1, h2⟩ => ⟨gb, h1, h2.keep hk⟩)
theorem RdSet.apart {w w0 : World} {bp : Option Addr} {ns : List Bool} {ga : Nat} (h : RdSet w0 bp ns) (hk : Kept w0 w) (hg : w0.heap.size ≤ ga) : RdTab w ga bp ns := h.imp id (fun ⟨gb, h1, h2⟩ => ⟨gb, h1, by have := h2.lt; omega, h2.keep hk⟩)
theorem kept_ofB {g : Nat} {w w1 w2 : World} (h : Kept w w1) (hb : KeptBut g w1 w2) (hg : w.heap.size ≤ g) : Kept w w2 := KeptBut.up h hg hb
/-- A set is answered in new memory. -/
def SetR (nl A : Nat) (w : World) (e : Ending) (w' : World) : Prop := ∃ (g : Nat) (zs : List Bool), e = .returned (.slice (some ⟨g, 0, none⟩) (nl + 2) (nl + 2)) ∧ w.heap.size ≤ g ∧ zs.length = nl + 2 ∧ bitsOf zs = A ∧ TabB w' g zs ∧ Kept w w'
def DhI (nl E : Nat) (F : Nat → Nat) (N : Nat) (row : List SymM) (g : Nat) (W : World) (vi : Value) (wr : World) : Prop := ∃ (m : Nat) (zs : List Bool), vi = .int .i64 (m : Int) ∧ m ≤ row.length ∧ Hid (zs.length = nl + 2) ∧ Hid (headsM nl E F N row 0 = headsM nl E F N (row.drop m) (bitsOf zs)) ∧ Hid (TabB wr g zs) ∧ Hid (Kept W wr)
theorem heads_drop {nl E : Nat} {F : Nat → Nat} {N : Nat} {row : List SymM} {m : Nat} {x : SymM} (hx : row[m]? = some x) (out : Nat) : headsM nl E F N (row.drop m) out = headsM nl E F N (x :: row.drop (m + 1)) out := by
  obtain ⟨hm, e⟩ := List.getElem?_eq_some_iff.1 hx
  rw [List.drop_eq_getElem_cons hm, e]
set_option linter.unusedSimpArgs false in
set_option maxRecDepth 100000 in
set_option maxHeartbeats 8000000 in
/-- With what a row begins, by the document. -/
theorem dHeadsF_is (k : Nat) (lex : List (LexM k)) (row : List SymM) (al ar bp : Option Addr) (nl cl nr cr n cb gf cf ge ce nn : Nat) (G : List (Nat × List Bool)) (es ns : List Bool) (x1 x2 x3 : Value) (w : World) (hnl : nl ≤ 64) (hnn : nn ≤ 128) (hlex : lex.length = nl) (hrow : row.length = nr) (hG : G.length = nn) (hes : es.length = nn) (hns : ns.length = n) (hn2 : n ≤ nl + 2) (hcb : n ≤ cb) (hcf : nn ≤ cf) (hce : nn ≤ ce) (hr : RightAt w (.slice ar nr cr) row) (hok : ∀ x ∈ row, symErr lex nn x = 0) (hF : FamR w gf nl G) (hE : TabB w ge es) (hN : RdSet w bp ns) :
    Calls Tryd.prog 56 #[.agg #[.slice al nl cl, x1, x2, x3], .slice ar nr cr, .slice bp n cb, .slice (some ⟨gf, 0, none⟩) nn cf, .slice (some ⟨ge, 0, none⟩) nn ce] w (SetR nl (headsM nl (bitsOf es) (famF G) (bitsOf ns) row 0) w) := by
  have HK1 : Hid (Kept w (w.alloc (.cells #[.slice al nl cl, x1, x2, x3] 26))) := (Kept.refl w).alloc _ _
  have HB1 := hide1 (SBox.new w (.slice al nl cl) x1 x2 x3)
  have HR := hide1 hr
  have HROW := hide1 hrow
  have HG := hide1 hG
  have HES := hide1 hes
  have HNS := hide1 hns
  have HOK := hide1 hok
  have HF := hide1 hF
  have HE := hide1 hE
  have HN := hide1 hN
  have HLEN := hide1 hlex
  have HNL := hide1 hnl
  obtain ⟨_, _, e1, hc, hn⟩ := hr.len
  simp only [Value.slice.injEq] at e1
  obtain ⟨rfl, en, rfl⟩ := e1
  clear en
  rw [hrow] at hc hn
  have gn : (nr : Int) ≤ 17592186044416 := by omega
  have gl : (nl : Int) ≤ 64 := by omega
  have gnn : (nn : Int) ≤ 128 := by omega
  clear hr hrow hG hes hns hok hF hE hN hlex
  go_enter Tryd.func56, Tryd.ntmps56
  go_upto_region 1 with fail
  obtain ⟨W, hW⟩ : ∃ W, w.alloc (.cells #[.slice al nl cl, x1, x2, x3] 26) = W := ⟨_, rfl⟩
  rw [hW] at HK1 HB1 ⊢
  clear hW
  obtain ⟨b, hb⟩ : ∃ b, w.heap.size = b := ⟨_, rfl⟩
  rw [hb] at HB1 ⊢
  clear hb
  obtain ⟨s0, s1, s2, s3⟩ := HB1.out.facts
  go_upto_region 2 with (go_at_call 54; refine (dNone_is al nl cl x1 x2 x3 W HNL.out).mono ?_; rintro e w1 ⟨g, rfl, hg, ht1, hk1⟩; have HGG := hide1 hg; have HT1 := hide1 ht1; have HKa := hide1 hk1; clear hg ht1 hk1)
  clear s0 s1 s2 s3
  go_wp2_with fail
  go_loopw [12] (DhI nl (bitsOf es) (famF G) (bitsOf ns) row g W) (fun i _ => nr - (intOf i).toNat)
  case atStart => exact ⟨0, _, rfl, Nat.zero_le _, List.length_replicate, (by show _ = _; rw [bits_false]; rfl), HT1, HKa⟩
  case round =>
    obtain ⟨m, zs, rfl, hm, HZL, HHD, HTZ, HKr⟩ := hrel
    rw [HROW.out] at hm
    by_cases hlt : (m : Int) < (nr : Int)
    · obtain ⟨x, hx⟩ : ∃ x, row[m]? = some x := ⟨_, List.getElem?_eq_getElem (by have := HROW.out; omega)⟩
      obtain ⟨cr2, or2, cs2, ea2, hcb2, hlen2, hcell2, hcs2⟩ := SliceOf.el (HR.out.keep (gtrans HK1.out HKr.out)) hx
      have hcs2 : cs2 = [.int .i64 x.1, .int .i64 x.2] := hcs2
      subst ea2 hcs2
      have k0 : wr.cell? ⟨cr2, or2 + m * 2, none⟩ = some (.int .i64 x.1) := hcell2 0 _ rfl
      have k1 : wr.cell? ⟨cr2, or2 + m * 2 + 1, none⟩ = some (.int .i64 x.2) := hcell2 1 _ rfl
      have gmc : (m : Int) < (cr : Int) := by omega
      have HOX := hide1 (sym_three HLEN.out (HOK.out x (List.mem_of_getElem? hx)))
      have HD := hide1 (heads_drop (nl := nl) (E := bitsOf es) (F := famF G) (N := bitsOf ns) hx (bitsOf zs))
      obtain ⟨kd, sn⟩ := x
      dsimp only at k0 k1
      clear hx hcell2
      have HXB := hide1 (XBox.new wr kd sn)
      have HK6 : Hid (Kept wr (wr.alloc (.cells #[.int .i64 kd, .int .i64 sn] 68))) := (Kept.refl wr).alloc _ _
      go_upto_region 6 with fail
      clear k0 k1
      obtain ⟨W6, hW6⟩ : ∃ W6, wr.alloc (.cells #[.int .i64 kd, .int .i64 sn] 68) = W6 := ⟨_, rfl⟩
      rw [hW6] at HXB HK6 ⊢
      clear hW6
      obtain ⟨xb, hxb⟩ : ∃ xb, wr.heap.size = xb := ⟨_, rfl⟩
      rw [hxb] at HXB ⊢
      have HXG : Hid (xb ≠ g) := by have := HTZ.out.lt; show _ ≠ _; omega
      clear hxb
      obtain ⟨t0, t1⟩ := HXB.out.cells
      have HT6 := hide1 (HTZ.out.keep HK6.out)
      have HKW6 := hide1 (gtrans HKr.out HK6.out)
      have HWG : Hid (W.heap.size ≤ g) := HGG
      by_cases h1 : kd = 1
      · subst h1
        obtain ⟨q, rfl⟩ : ∃ q : Nat, sn = (q : Int) := ⟨sn.toNat, by rcases HOX.out with e | e | e <;> simp only at e <;> omega⟩
        have gqn : (q : Int) < (nl : Int) := by rcases HOX.out with e | e | e <;> simp only at e <;> omega
        have gq2 : (q : Int) < (nl : Int) + 2 := by omega
        obtain ⟨y, hy⟩ : ∃ y, zs[q]? = some y := ⟨_, List.getElem?_eq_getElem (by have := HZL.out; omega)⟩
        have c0 := HT6.out.cell hy
        have z0 := HT6.out.free q
        have HFI : Hid (bitsOf (zs.set q true) = headsM nl (bitsOf es) (famF G) (bitsOf ns) row 0) := by
          show _ = _
          rw [HHD.out, HD.out, bits_set (by have := HZL.out; omega)]
          show _ = if (1 : Int) = 3 then _ else _
          rw [if_neg (by decide)]
          unfold termN
          rw [if_neg (by show ¬ (1 : Int) = 2; decide)]
          rfl
        clear hy
        go_wp2_with fail
        go_ret
        exact ⟨g, zs.set q true, rfl, Nat.le_trans HK1.out.size HWG.out, (by rw [List.length_set]; exact HZL.out), HFI.out, HT6.out.set, gtrans HK1.out (keepB HKW6.out HWG.out)⟩
      · have b1 : (kd == 1) = false := by simpa using h1
        by_cases h2 : kd = 2
        · subst h2
          have gq2 : (nl : Int) < (nl : Int) + 2 := by omega
          obtain ⟨y, hy⟩ : ∃ y, zs[nl]? = some y := ⟨_, List.getElem?_eq_getElem (by have := HZL.out; omega)⟩
          have c0 := HT6.out.cell hy
          have z0 := HT6.out.free nl
          obtain ⟨s0, s1, s2, s3⟩ := (HB1.out.keep HKW6.out).facts
          have HFI : Hid (bitsOf (zs.set nl true) = headsM nl (bitsOf es) (famF G) (bitsOf ns) row 0) := by
            show _ = _
            rw [HHD.out, HD.out, bits_set (by have := HZL.out; omega)]
            show _ = if (2 : Int) = 3 then _ else _
            rw [if_neg (by decide)]
            unfold termN
            rw [if_pos rfl]
          clear hy h1
          go_wp2_with fail
          go_ret
          exact ⟨g, zs.set nl true, rfl, Nat.le_trans HK1.out.size HWG.out, (by rw [List.length_set]; exact HZL.out), HFI.out, HT6.out.set, gtrans HK1.out (keepB HKW6.out HWG.out)⟩
        · have b2 : (kd == 2) = false := by simpa using h2
          have h3 : kd = 3 := by rcases HOX.out with e | e | e <;> simp only at e <;> omega
          subst h3
          clear h1 h2
          obtain ⟨q, rfl⟩ : ∃ q : Nat, sn = (q : Int) := ⟨sn.toNat, by rcases HOX.out with e | e | e <;> simp only at e <;> omega⟩
          have gqn : (q : Int) < (nn : Int) := by rcases HOX.out with e | e | e <;> simp only at e <;> omega
          have gqf : (q : Int) < (cf : Int) := by omega
          have gqe : (q : Int) < (ce : Int) := by omega
          obtain ⟨fx, hfx⟩ : ∃ fx, G[q]? = some fx := ⟨_, List.getElem?_eq_getElem (by have := HG.out; omega)⟩
          have HFX := hide1 (HF.out.keep (gtrans HK1.out HKW6.out))
          have c0 := HFX.out.cell q fx hfx
          have HFT := hide1 (HF.out.tab q fx hfx)
          have HFA := hide1 (famF_at hfx)
          obtain ⟨y, hy⟩ : ∃ y, es[q]? = some y := ⟨_, List.getElem?_eq_getElem (by have := HES.out; omega)⟩
          have HEY := hide1 (bits_at hy)
          have HYC := hide1 hy
          clear hfx hy
          have HRD : Hid (RdTab W6 g (some ⟨fx.1, 0, none⟩) fx.2) := .inr ⟨fx.1, rfl, (by have := HFT.out.1.lt; have := HGG.out; have := HK1.out.size; omega), HFT.out.1.keep (gtrans HK1.out HKW6.out)⟩
          obtain ⟨fg, fs⟩ := fx
          dsimp only at c0 HRD HFT HFA
          go_upto_region 14 with (go_at_call 61; refine (dAdd_is g zs fs (some ⟨fg, 0, none⟩) (nl + 2) (nl + 2) (nl + 2) (nl + 2) W6 HZL.out HFT.out.2 (Nat.le_refl _) (by omega) (Nat.le_refl _) (Nat.le_refl _) HT6.out HRD.out).mono ?_; rintro e w7 ⟨ys, fl, h71, h72, rfl, _, h74, h75⟩; have HYL := hide1 h71; have HYB := hide1 h72; have HT7 := hide1 h74; have HK7 := hide1 h75; clear h71 h72 h74 h75)
          clear t0 t1 c0
          obtain ⟨t0, t1⟩ := (HXB.out.but HK7.out HXG.out).cells
          have HKW7 : Hid (Kept W w7) := kept_ofB HKW6.out HK7.out HWG.out
          have c1 := (HE.out.keep (gtrans HK1.out HKW7.out)).cell HYC.out
          have HH2 : Hid (headsM nl (bitsOf es) (famF G) (bitsOf ns) row 0 = if y = true then headsM nl (bitsOf es) (famF G) (bitsOf ns) (row.drop (m + 1)) (bitsOf ys) else bitsOf ys) := by
            show _ = _
            rw [HHD.out, HD.out]
            show (if (3 : Int) = 3 then _ else _) = _
            rw [if_pos rfl, show (((3 : Int), (q : Int)) : SymM).2.toNat = q from Int.toNat_natCast q, HEY.out, HFA.out, ← HYB.out]
          cases y with
          | true =>
            have HH3 : Hid (headsM nl (bitsOf es) (famF G) (bitsOf ns) row 0 = headsM nl (bitsOf es) (famF G) (bitsOf ns) (row.drop (m + 1)) (bitsOf ys)) := HH2.out
            go_wp2_with fail
            go_roundw
            case rel => exact ⟨m + 1, ys, by go_num, by rw [HROW.out]; omega, HYL, HH3, HT7, HKW7⟩
            case measure => simp [intOf]; omega
          | false =>
            have HH3 : Hid (headsM nl (bitsOf es) (famF G) (bitsOf ns) row 0 = bitsOf ys) := HH2.out
            go_wp2_with fail
            go_ret
            exact ⟨g, ys, rfl, Nat.le_trans HK1.out.size HWG.out, HYL.out, HH3.out.symm, HT7.out, gtrans HK1.out HKW7.out⟩
    · have HWG : Hid (W.heap.size ≤ g) := HGG
      have HRD : Hid (RdTab wr g bp ns) := HN.out.apart (gtrans HK1.out HKr.out) (Nat.le_trans HK1.out.size HGG.out)
      have HH : Hid (headsM nl (bitsOf es) (famF G) (bitsOf ns) row 0 = bitsOf zs ||| bitsOf ns) := by
        show _ = _
        rw [HHD.out, List.drop_eq_nil_of_le (by have := HROW.out; omega)]
        rfl
      go_wp2_with (go_at_call 61; refine (dAdd_is g zs ns bp (nl + 2) (nl + 2) n cb wr HZL.out HNS.out hn2 (by omega) (Nat.le_refl _) hcb HTZ.out HRD.out).mono ?_; rintro e w7 ⟨ys, fl, h71, h72, rfl, _, h74, h75⟩; have HYL := hide1 h71; have HYB := hide1 h72; have HT7 := hide1 h74; have HK7 := hide1 h75; clear h71 h72 h74 h75)
      go_ret
      exact ⟨g, ys, rfl, Nat.le_trans HK1.out.size HWG.out, HYL.out, (by rw [HH.out, HYB.out]), HT7.out, gtrans HK1.out (kept_ofB HKr.out HK7.out HWG.out)⟩

end Ex
end Go.Proofs.YtggodknnfpegmaaDoor
namespace Go.Proofs.YtggodknnfpegmaaDoor
open Go.RowKit
attribute [local go_sem] Oper.semAt_some
namespace Ex

theorem dset_info : (Tryd.prog.info? 107).map (fun i => (i.zero, i.size, i.bytes)) = some (some (.slice none 0 0), 1, 24) := by kernel_rfl
/-- A set of the family as a value. -/
def tabV (nl : Nat) (x : Nat × List Bool) : Value := .slice (some ⟨x.1, 0, none⟩) (nl + 2) (nl + 2)
/-- A list of sets of the call's own. -/
def SetsO (w : World) (base : Nat) (v : Value) (vs : List Value) : Prop := w.ownsRow base 107 1 v vs.length vs
theorem SetsO.lt {w : World} {base : Nat} {v : Value} {vs : List Value} (h : SetsO w base v vs) : ∀ g, v.ownBlock = some g → base ≤ g ∧ g < w.heap.size := World.ownsRow.lt h
theorem SetsO.keep {w w' : World} {base : Nat} {v : Value} {vs : List Value} (h : SetsO w base v vs) (hk : Kept w w') : SetsO w' base v vs := owns_same h (fun g hg => hk.2.2.2.2 g (h.lt g hg).2)
theorem SetsO.nil (w : World) (base : Nat) : SetsO w base (.slice none 0 0) [] := World.ownsRow_nil _ _ _ _
theorem wpl_sets {ops : Array Oper} {rest : List Oper} {o : Oper} {a : Act} {Q : Exit → Act → World → Prop} (hgd : o.guard = none) (s x : Operand) (ho : o.op = .call { callee := .builtin .append, args := #[s, x], argTypes := #[77, 77] }) (w : World)
    (base : Nat) (v : Value) (vs : List Value) (m : Nat) (hm : vs.length = m) (hs : a.eval s = v) (hown : SetsO w base v vs) (lb : Nat) (u : Value) (hu1 : u.oneCell' = true) (hx : a.eval x = .slice (some ⟨lb, 0, none⟩) 1 1) (hbx : w.heap[lb]? = some (.cells #[u] 107 (0, 0))) (hl : vs.length ≤ 8388608) (hbase : base ≤ w.heap.size)
    (h : ∀ g cap w', SetsO w' base (.slice (some ⟨g, 0, none⟩) (m + 1) cap) (vs ++ [u]) → w.grownBy w' v.ownBlock → (v.ownBlock = some g ∨ g = w.heap.size) → g < w'.heap.size → wpList Tryd.prog ops Q rest (a.put o.dst (.slice (some ⟨g, 0, none⟩) (m + 1) cap)) w') :
    wpList Tryd.prog ops Q (o :: rest) a w := by
  obtain ⟨i0, hi, hz0, hz1, hz2⟩ := info_parts dset_info
  subst hm
  refine wpList_append_lies w hgd s x 77 ho base 107 i0 _ 1 24 Tryd.underlying77 hi hz0 hz1 hz2 rfl (by decide) v vs.length vs hs hown ⟨lb, 0, none⟩ 1 1 [u] hx rfl ?_ ?_ (by decide) (by unfold maxLen; omega) (by omega) hbase w.heap.size rfl ?_
  · intro j y hj
    have hj2 : j < 1 := (List.getElem?_eq_some_iff.1 hj).1
    match j, hj2 with
    | 0, _ => rw [← hj]; simp [World.cell?, Addr.add, hbx]
  · intro u2 hu
    rw [List.mem_singleton.1 hu]
    exact hu1
  · intro g cap w' h1 h2 h3 h4
    refine h g cap w' ?_ h2 h3 h4
    unfold SetsO
    rw [List.length_append]
    exact h1
/-- Tables that are apart, made behind base. -/
structure FamN (nl base : Nat) (w : World) (G : List (Nat × List Bool)) : Prop where
  tab : ∀ (i : Nat) (x : Nat × List Bool), G[i]? = some x → TabB w x.1 x.2 ∧ x.2.length = nl + 2 ∧ base ≤ x.1
  inj : ∀ (i j : Nat) (x y : Nat × List Bool), G[i]? = some x → G[j]? = some y → x.1 = y.1 → i = j
theorem FamN.keep {nl base : Nat} {w w' : World} {G : List (Nat × List Bool)} (h : FamN nl base w G) (hk : Kept w w') : FamN nl base w' G := ⟨fun i x hx => ⟨(h.tab i x hx).1.keep hk, (h.tab i x hx).2⟩, h.inj⟩
theorem own_ne7 {w : World} {base g : Nat} {v : Value} {vs : List Value} {ms : List Bool} (ho : SetsO w base v vs) (ht : TabB w g ms) : v.ownBlock ≠ some g := by
  intro e
  have h2 : w.ownsRow base 107 1 v vs.length vs := ho
  rcases h2.2 with ⟨rfl, _⟩ | ⟨g', cap, cur, rfl, _, hg, _⟩
  · cases e
  · obtain rfl : g' = g := by simpa [Value.ownBlock] using e
    have ht2 : w.heap[g']? = _ := ht
    rw [hg] at ht2
    simp at ht2
theorem FamN.grown {nl base b2 : Nat} {w w' : World} {G : List (Nat × List Bool)} {v : Value} {vs : List Value} {c : Array Value} {t : TypeId} (h : FamN nl base w G) (ho : SetsO w b2 v vs) (hg : (w.alloc (.cells c t)).grownBy w' v.ownBlock) : FamN nl base w' G :=
  ⟨fun i x hx => ⟨(hg.block x.1 (by have := (h.tab i x hx).1.lt; simp; omega) (fun e => own_ne7 ho (h.tab i x hx).1 e.symm)).trans ((heap_alloc_old w _ (h.tab i x hx).1.lt).trans (h.tab i x hx).1), (h.tab i x hx).2⟩, h.inj⟩
theorem FamN.add {nl base g : Nat} {w : World} {G : List (Nat × List Bool)} {ms : List Bool} (h : FamN nl base w G) (hn : ∀ (i : Nat) (x : Nat × List Bool), G[i]? = some x → x.1 ≠ g) (ht : TabB w g ms) (hl : ms.length = nl + 2) (hb : base ≤ g) : FamN nl base w (G ++ [(g, ms)]) := by
  have key : ∀ (i : Nat) (x : Nat × List Bool), (G ++ [(g, ms)])[i]? = some x → G[i]? = some x ∨ (i = G.length ∧ x = (g, ms)) := by
    intro i x hx
    rcases Nat.lt_or_ge i G.length with hi | hi
    · rw [List.getElem?_append_left hi] at hx
      exact .inl hx
    · rw [List.getElem?_append_right hi] at hx
      have hi2 := (List.getElem?_eq_some_iff.1 hx).1
      simp at hi2
      have e : i = G.length := by omega
      subst e
      simp at hx
      exact .inr ⟨rfl, hx.symm⟩
  refine ⟨fun i x hx => ?_, fun i j x y hx hy hxy => ?_⟩
  · rcases key i x hx with h1 | ⟨_, rfl⟩
    · exact h.tab i x h1
    · exact ⟨ht, hl, hb⟩
  · rcases key i x hx with h1 | ⟨rfl, rfl⟩
    · rcases key j y hy with h2 | ⟨rfl, rfl⟩
      · exact h.inj i j x y h1 h2 hxy
      · exact absurd hxy (hn i x h1)
    · rcases key j y hy with h2 | ⟨rfl, _⟩
      · exact absurd hxy.symm (hn j y h2)
      · rfl
/-- The family while it grows: the list lies in gf. -/
structure FmS (nl nn gf base : Nat) (w : World) (G : List (Nat × List Bool)) : Prop where
  len : G.length = nn
  fam : FamR w gf nl G
  apart : FamN nl base w G
  ne : ∀ (i : Nat) (x : Nat × List Bool), G[i]? = some x → x.1 ≠ gf
theorem FmS.keep {nl nn gf base : Nat} {w w' : World} {G : List (Nat × List Bool)} (h : FmS nl nn gf base w G) (hk : Kept w w') : FmS nl nn gf base w' G := ⟨h.len, h.fam.keep hk, h.apart.keep hk, h.ne⟩
theorem fam_of {nl base : Nat} {w : World} {gf cf nn : Nat} {G : List (Nat × List Bool)} (hn : G.length = nn) (ho : SetsO w base (.slice (some ⟨gf, 0, none⟩) nn cf) (G.map (tabV nl))) (ha : FamN nl base w G) : FmS nl nn gf base w G ∧ nn ≤ cf := by
  have h2 : w.ownsRow base 107 1 (.slice (some ⟨gf, 0, none⟩) nn cf) (G.map (tabV nl)).length (G.map (tabV nl)) := ho
  rcases h2.2 with ⟨e, _⟩ | ⟨g', cap, cur, e, _, hg, hc, _, _, hx⟩
  · cases e
  · injection e with e1 e2 e3
    injection e1 with e1
    injection e1 with e1
    subst e1 e3
    refine ⟨⟨hn, ⟨fun i x hi => ?_, fun i x hi => ⟨(ha.tab i x hi).1, (ha.tab i x hi).2.1⟩⟩, ha, fun i x hi e => ?_⟩, by rw [e2]; exact hc⟩
    · have := row_cells hg hx i (tabV nl x) (by rw [List.getElem?_map, hi]; rfl)
      rw [Nat.zero_add] at this
      exact this
    · exact own_ne7 ho (ha.tab i x hi).1 (by rw [e]; rfl)
theorem FmS.put {nl nn gf base l g : Nat} {w w' : World} {G : List (Nat × List Bool)} {ms zs : List Bool} (h : FmS nl nn gf base w G) (hl : G[l]? = some (g, ms)) (ht : TabB w' g zs) (hz : zs.length = nl + 2) (hk : KeptBut g w w') : FmS nl nn gf base w' (G.set l (g, zs)) := by
  have hll := (List.getElem?_eq_some_iff.1 hl).1
  have key : ∀ (i : Nat) (x : Nat × List Bool), (G.set l (g, zs))[i]? = some x → (i = l ∧ x = (g, zs)) ∨ (i ≠ l ∧ G[i]? = some x) := by
    intro i x hx
    by_cases e : i = l
    · subst e
      rw [List.getElem?_set_self hll] at hx
      injection hx with hx
      exact .inl ⟨rfl, hx.symm⟩
    · rw [List.getElem?_set_ne (fun h => e h.symm)] at hx
      exact .inr ⟨e, hx⟩
  have hgf : ∀ (i : Nat) (x : Nat × List Bool), G[i]? = some x → w'.cell? ⟨gf, i, none⟩ = some (.slice (some ⟨x.1, 0, none⟩) (nl + 2) (nl + 2)) := fun i x hi => but_cellS hk (h.fam.cell i x hi) (fun e => h.ne l _ hl e.symm)
  have htab : ∀ (i : Nat) (x : Nat × List Bool), i ≠ l → G[i]? = some x → TabB w' x.1 x.2 := fun i x hne hi => (h.fam.tab i x hi).1.but hk (fun e => hne (h.apart.inj i l x _ hi hl e))
  refine ⟨by rw [List.length_set]; exact h.len, ⟨fun i x hx => ?_, fun i x hx => ?_⟩, ⟨fun i x hx => ?_, fun i j x y hx hy hxy => ?_⟩, fun i x hx => ?_⟩
  · rcases key i x hx with ⟨rfl, rfl⟩ | ⟨_, hi⟩
    · exact hgf i (g, ms) hl
    · exact hgf i x hi
  · rcases key i x hx with ⟨rfl, rfl⟩ | ⟨hne, hi⟩
    · exact ⟨ht, hz⟩
    · exact ⟨htab i x hne hi, (h.fam.tab i x hi).2⟩
  · rcases key i x hx with ⟨rfl, rfl⟩ | ⟨hne, hi⟩
    · exact ⟨ht, hz, (h.apart.tab i (g, ms) hl).2.2⟩
    · exact ⟨htab i x hne hi, (h.apart.tab i x hi).2⟩
  · rcases key i x hx with ⟨rfl, rfl⟩ | ⟨hne, hi⟩
    · rcases key j y hy with ⟨rfl, _⟩ | ⟨hne2, hj⟩
      · rfl
      · exact h.apart.inj i j (g, ms) y hl hj hxy
    · rcases key j y hy with ⟨rfl, rfl⟩ | ⟨hne2, hj⟩
      · exact h.apart.inj i j x (g, ms) hi hl hxy
      · exact h.apart.inj i j x y hi hj hxy
  · rcases key i x hx with ⟨rfl, rfl⟩ | ⟨_, hi⟩
    · exact h.ne i (g, ms) hl
    · exact h.ne i x hi
theorem famF_set {G : List (Nat × List Bool)} {l g : Nat} {ms zs : List Bool} {H : Nat} (hl : G[l]? = some (g, ms)) (hz : bitsOf zs = bitsOf ms ||| H) : famF (G.set l (g, zs)) = orV (famF G) l H := by
  funext i
  unfold orV
  have hll := (List.getElem?_eq_some_iff.1 hl).1
  by_cases e : i = l
  · subst e
    rw [if_pos rfl, famF_at (List.getElem?_set_self hll), famF_at hl]
    exact hz
  · rw [if_neg e]
    unfold famF
    rw [List.getElem?_set_ne (fun h => e h.symm)]
theorem famF_lt {nl nn gf base : Nat} {w : World} {G : List (Nat × List Bool)} (h : FmS nl nn gf base w G) (hnl : nl ≤ 64) (n : Nat) : famF G n < 2 ^ 128 := by
  cases hx : G[n]? with
  | none => unfold famF; rw [hx]; exact Nat.two_pow_pos 128
  | some x =>
    rw [famF_at hx]
    have h1 := bits_lt x.2
    rw [(h.fam.tab n x hx).2] at h1
    exact Nat.lt_of_lt_of_le h1 (Nat.pow_le_pow_right (by decide) (by omega))
/-- The family in memory, read off the world. -/
def rdFam7 (gf nn : Nat) (w : World) (i : Nat) : Nat := if i < nn then (match w.cell? ⟨gf, i, none⟩ with | some (.slice (some a) _ _) => rdTab a.block w | _ => 0) else 0
theorem FmS.rd {nl nn gf base : Nat} {w : World} {G : List (Nat × List Bool)} (h : FmS nl nn gf base w G) : rdFam7 gf nn w = famF G := by
  funext i
  unfold rdFam7
  by_cases hi : i < nn
  · rw [if_pos hi]
    obtain ⟨x, hx⟩ : ∃ x, G[i]? = some x := ⟨_, List.getElem?_eq_getElem (by rw [h.len]; exact hi)⟩
    rw [h.fam.cell i x hx, famF_at hx]
    exact (h.fam.tab i x hx).1.rd
  · rw [if_neg hi]
    unfold famF
    rw [List.getElem?_eq_none (by rw [h.len]; omega)]
    rfl
theorem fms_low {nl nn gf base b2 : Nat} {w : World} {G : List (Nat × List Bool)} (h : FmS nl nn gf base w G) (hb : b2 ≤ base) : FmS nl nn gf b2 w G := ⟨h.len, h.fam, ⟨fun i x hx => ⟨(h.apart.tab i x hx).1, (h.apart.tab i x hx).2.1, Nat.le_trans hb (h.apart.tab i x hx).2.2⟩, h.apart.inj⟩, h.ne⟩
theorem own_addr {w : World} {base n c : Nat} {a : Option Addr} {vs : List Value} (h : SetsO w base (.slice a n c) vs) (hv : 0 < vs.length) : ∃ gf, a = some ⟨gf, 0, none⟩ := by
  have h2 : w.ownsRow base 107 1 (.slice a n c) vs.length vs := h
  rcases h2.2 with ⟨_, h0⟩ | ⟨g, cap, cur, e, _⟩
  · omega
  · injection e with e1 _ _
    exact ⟨g, e1⟩
theorem sets_grown {w0 W w' : World} {v : Value} {l : List Value} {c : Array Value} {t : TypeId} {base : Nat} (h : Kept w0 W) (hb : w0.heap.size ≤ base) (ho : SetsO W base v l) (hg : (W.alloc (.cells c t)).grownBy w' v.ownBlock) : Kept w0 w' :=
  ⟨hg.os.trans h.1, hg.tape.trans h.2.1, hg.output.trans h.2.2.1, Nat.le_trans h.size (Nat.le_trans (allocS_le W _) hg.size), fun d hd => (hg.block d (by simp; have := h.size; omega) (fun e => by have := (ho.lt d e.symm).1; omega)).trans ((heap_alloc_old W _ (Nat.lt_of_lt_of_le hd h.size)).trans (h.2.2.2.2 d hd))⟩
/-- The first loop of First, and its fixed point. -/
def FaI (nl nn : Nat) (W : World) (vl vi : Value) (wr : World) : Prop := ∃ (j : Nat) (G : List (Nat × List Bool)), vi = .int .i64 (j : Int) ∧ j ≤ nn ∧ (∃ a c, vl = .slice a j c) ∧ Hid (G.length = j) ∧ Hid (SetsO wr W.heap.size vl (G.map (tabV nl))) ∧ Hid (FamN nl W.heap.size wr G) ∧ Hid (∀ n, famF G n = 0) ∧ Hid (Kept W wr)
def FbI (nl nn gf E : Nat) (ps : List ProdM) (W : World) (vf : Value) (wr : World) : Prop := ∃ (G : List (Nat × List Bool)) (fl : Bool), vf = .bool fl ∧ Hid (FmS nl nn gf W.heap.size wr G) ∧ Hid (∀ x, famS (famF G) x → Fi nl (fun n => E.testBit n = true) ps x) ∧ Hid (fl = false → LfStep (fun _ => False) (fun i => i < ps.length) (FiG nl (fun n => E.testBit n = true) ps) (famS (famF G)) (famS (famF G)) (fun i => i < ps.length)) ∧ Hid (Kept W wr)
def FbJ (nl nn gf E : Nat) (ps : List ProdM) (F0 : Nat → Nat) (W : World) (vf vi : Value) (wr : World) : Prop := ∃ (j : Nat) (G : List (Nat × List Bool)) (fl : Bool), vf = .bool fl ∧ vi = .int .i64 (j : Int) ∧ j ≤ ps.length ∧ Hid (FmS nl nn gf W.heap.size wr G) ∧ Hid (LfStep (fun _ => False) (fun i => i < ps.length) (FiG nl (fun n => E.testBit n = true) ps) (famS F0) (famS (famF G)) (fun i => i < j)) ∧ Hid ((fl = false → famF G = F0) ∧ (fl = true → ∃ n, n < nn ∧ famF G n ≠ F0 n)) ∧ Hid (Kept W wr)
/-- What First answers. -/
def FirR (nl nn : Nat) (ps : List ProdM) (w : World) (e : Ending) (w' : World) : Prop := ∃ (gf cf : Nat) (G : List (Nat × List Bool)), e = .returned (.slice (some ⟨gf, 0, none⟩) nn cf) ∧ nn ≤ cf ∧ FmS nl nn gf w.heap.size w' G ∧ (∀ x, famS (famF G) x ↔ Fi nl (Mk false ps) ps x) ∧ Kept w w'
theorem fam_flag {F F0 : Nat → Nat} {nn : Nat} (hnn : nn ≤ 128) (hF : ∀ n, F n < 2 ^ 128) (h0 : ∀ n, F0 n < 2 ^ 128) (hup : ∀ x, famS F0 x → famS F x) (h : ∃ n, n < nn ∧ F n ≠ F0 n) : leftF F < leftF F0 := by
  obtain ⟨i, hi, hne⟩ := h
  exact sumV_lt (fun n => leftS_le (A := F0 n) (B := F n) (fun t ht => hup (n, t) ht) (h0 n) (hF n)) (by omega) (leftS_lt (A := F0 i) (B := F i) (fun t ht => hup (i, t) ht) (h0 i) (hF i) (fun e => hne e.symm))

end Ex
end Go.Proofs.YtggodknnfpegmaaDoor
namespace Go.Proofs.YtggodknnfpegmaaDoor
open Go.RowKit
attribute [local go_sem] Oper.semAt_some
namespace Ex

theorem famF_zero {G : List (Nat × List Bool)} {g nl : Nat} (h : ∀ n, famF G n = 0) : ∀ n, famF (G ++ [(g, List.replicate (nl + 2) false)]) n = 0 := by
  intro n
  have h1 := h n
  unfold famF at h1 ⊢
  rcases Nat.lt_or_ge n G.length with hi | hi
  · rw [List.getElem?_append_left hi]; exact h1
  · rw [List.getElem?_append_right hi]
    rcases Nat.lt_or_ge (n - G.length) 1 with hj | hj
    · rw [show n - G.length = 0 by omega]
      show bitsOf (List.replicate (nl + 2) false) = 0
      exact bits_false _
    · rw [List.getElem?_eq_none (by simp; omega)]
      rfl
/-- Add, where it is known whether it adds. -/
def AddF (ga m : Nat) (ms ns : List Bool) (fl : Bool) (w : World) (e : Ending) (w' : World) : Prop := ∃ zs : List Bool, zs.length = m ∧ bitsOf zs = bitsOf ms ||| bitsOf ns ∧ e = .returned (.bool fl) ∧ TabB w' ga zs ∧ KeptBut ga w w'
theorem add_false {ga m : Nat} {ms ns : List Bool} {w w' : World} {e : Ending} (h : AddR ga m ms ns w e w') (hn : bitsOf ms ||| bitsOf ns = bitsOf ms) : AddF ga m ms ns false w e w' := by
  obtain ⟨zs, fl, h1, h2, h3, h4, h5, h6⟩ := h
  cases fl with
  | false => exact ⟨zs, h1, h2, h3, h5, h6⟩
  | true => exact absurd (h2.trans hn) (h4.1 rfl)
theorem add_true {ga m : Nat} {ms ns : List Bool} {w w' : World} {e : Ending} (h : AddR ga m ms ns w e w') (hn : ¬ bitsOf ms ||| bitsOf ns = bitsOf ms) : AddF ga m ms ns true w e w' := by
  obtain ⟨zs, fl, h1, h2, h3, h4, h5, h6⟩ := h
  cases fl with
  | true => exact ⟨zs, h1, h2, h3, h5, h6⟩
  | false => exact absurd (h4.2 (by rw [h2]; exact hn)) (by decide)
theorem fiF_same {G : List (Nat × List Bool)} {l g : Nat} {ms hs ys : List Bool} (hl : G[l]? = some (g, ms)) (hy : bitsOf ys = bitsOf ms ||| bitsOf hs) (hn : bitsOf ms ||| bitsOf hs = bitsOf ms) : famF (G.set l (g, ys)) = famF G := by
  rw [famF_set hl hy]
  funext i
  unfold orV
  split
  · next e => subst e; rw [famF_at hl]; exact hn
  · rfl
theorem fiF_new {G : List (Nat × List Bool)} {F0 : Nat → Nat} {l g : Nat} {ms hs ys : List Bool} (hup : ∀ x, famS F0 x → famS (famF G) x) (hl : G[l]? = some (g, ms)) (hy : bitsOf ys = bitsOf ms ||| bitsOf hs) (hn : ¬ bitsOf ms ||| bitsOf hs = bitsOf ms) : famF (G.set l (g, ys)) l ≠ F0 l := by
  intro e
  rw [famF_set hl hy] at e
  unfold orV at e
  rw [if_pos rfl, famF_at hl] at e
  apply hn
  refine Nat.eq_of_testBit_eq (fun t => ?_)
  rw [Bool.eq_iff_iff]
  constructor
  · intro ht
    rw [e] at ht
    have := hup (l, t) ht
    unfold famS at this
    rw [famF_at hl] at this
    exact this
  · intro ht
    rw [Nat.testBit_or, ht]
    rfl
theorem fiF_step {nl E m l : Nat} {ps : List ProdM} {F0 F F3 : Nat → Nat} {p : ProdM} {hs : List Bool} (hp : ps[m]? = some p) (hl : p.1.toNat = l) (hb : bitsOf hs = headsM nl E F (bitsOf []) p.2 0) (h : LfStep (fun _ => False) (fun i => i < ps.length) (FiG nl (fun n => E.testBit n = true) ps) (famS F0) (famS F) (fun i => i < m)) (hF : F3 = orV F l (bitsOf hs)) : LfStep (fun _ => False) (fun i => i < ps.length) (FiG nl (fun n => E.testBit n = true) ps) (famS F0) (famS F3) (fun i => i < m + 1) := by
  subst hF
  have hbit : ∀ t, (bitsOf hs).testBit t = true ↔ HeadS nl (fun n => E.testBit n = true) (famS F) (fun _ => False) p.2 t := by
    intro t
    rw [hb, heads_bit]
    constructor
    · rintro (h0 | h0)
      · simp at h0
      · exact h0.mono (fun _ h => h) (fun t ht => by simp [bitsOf] at ht)
    · intro h0
      exact .inr (h0.mono (fun _ h => h) (fun t ht => ht.elim))
  refine h.put (fi_up _ _ _) (i := m) (List.getElem?_eq_some_iff.1 hp).1 (fun k hk => by omega) (fun x hx => (fam_set _ _ _ x).2 (.inl hx)) (fun x hx => ?_) (fun x hx => ?_)
  · rcases (fam_set _ _ _ x).1 hx with h1 | ⟨h1, h2⟩
    · exact .inl h1
    · exact .inr ⟨p, hp, by rw [hl]; exact h1, (hbit x.2).1 h2⟩
  · obtain ⟨q, hq, h1, h2⟩ := hx
    rw [hp] at hq
    injection hq with hq
    subst hq
    exact (fam_set _ _ _ x).2 (.inr ⟨by rw [← hl]; exact h1, (hbit x.2).2 h2⟩)
set_option linter.unusedSimpArgs false in
set_option maxRecDepth 100000 in
set_option maxHeartbeats 8000000 in
/-- The document's First of a spec in order. -/
theorem dFirst_is (k : Nat) (lex : List (LexM k)) (ps : List ProdM) (al an ap : Option Addr) (nl cl nn cn np cp : Nat) (x2 : Value) (w : World) (hnl : nl ≤ 64) (hnn : nn ≤ 128) (hn1 : 0 < nn) (hlex : lex.length = nl) (hps : ps.length = np) (hp : ProdsAt w (.slice ap np cp) ps) (hok : ∀ p ∈ ps, (0 ≤ p.1 ∧ p.1 < (nn : Int)) ∧ ∀ x ∈ p.2, symErr lex nn x = 0) :
    Calls Tryd.prog 30 #[.agg #[.slice al nl cl, .slice an nn cn, x2, .slice ap np cp]] w (FirR nl nn ps w) := by
  have HK1 : Hid (Kept w (w.alloc (.cells #[.slice al nl cl, .slice an nn cn, x2, .slice ap np cp] 26))) := (Kept.refl w).alloc _ _
  have HB1 := hide1 (SBox.new w (.slice al nl cl) (.slice an nn cn) x2 (.slice ap np cp))
  have HP := hide1 hp
  have HPS := hide1 hps
  have HOK := hide1 hok
  have HEN := hide1 (exact_names hlex hok)
  have HNN := hide1 hnn
  have HNL := hide1 hnl
  have HLEN := hide1 hlex
  have HN1 := hide1 hn1
  obtain ⟨_, _, e1, hc, hn⟩ := hp.len
  simp only [Value.slice.injEq] at e1
  obtain ⟨rfl, en, rfl⟩ := e1
  clear en
  rw [hps] at hc hn
  have gn : (nn : Int) ≤ 128 := by omega
  have gl : (nl : Int) ≤ 64 := by omega
  have gp : (np : Int) ≤ 17592186044416 := by omega
  clear hp hps hok hlex
  go_enter Tryd.func30, Tryd.ntmps30
  go_upto_region 1 with fail
  obtain ⟨W0, hW0⟩ : ∃ W0, w.alloc (.cells #[.slice al nl cl, .slice an nn cn, x2, .slice ap np cp] 26) = W0 := ⟨_, rfl⟩
  rw [hW0] at HK1 HB1 ⊢
  clear hW0
  obtain ⟨b, hb⟩ : ∃ b, w.heap.size = b := ⟨_, rfl⟩
  rw [hb] at HB1 ⊢
  clear hb
  obtain ⟨s0, s1, s2, s3⟩ := HB1.out.facts
  go_upto_region 2 with (go_at_call 28; refine (dNullable_is ps (.slice al nl cl) x2 an ap nn cn np cp W0 HNN.out HPS.out (HP.out.keep HK1.out) HEN.out).mono ?_; rintro e W ⟨es, ge, rfl, h1, h2, h3, h4, h5⟩; have HEL := hide1 h1; have HEM := hide1 h2; have HE := hide1 h4; have HK2 := hide1 h5; clear h1 h2 h3 h4 h5)
  clear s0 s1 s2 s3
  have HBW := hide1 (HB1.out.keep HK2.out)
  have HKW := hide1 (gtrans HK1.out HK2.out)
  have HEF : Hid ((fun n => (bitsOf es).testBit n = true) = Mk false ps) := funext (fun n => propext (HEM.out n))
  go_wp2_with fail
  go_loopw [4, 5] (FaI nl nn W) (fun _ i _ => nn - (intOf i).toNat)
  case atStart => exact ⟨0, [], rfl, Nat.zero_le _, ⟨none, 0, rfl⟩, rfl, SetsO.nil _ _, ⟨fun i x hx => (by simp at hx), fun i j x y hx => (by simp at hx)⟩, fun n => rfl, Kept.refl W⟩
  case round =>
    obtain ⟨j, G, rfl, hj, ⟨a, c, rfl⟩, HGL, HO, HFN, HZ, HKr⟩ := hrel
    obtain ⟨s0, s1, s2, s3⟩ := (HBW.out.keep HKr.out).facts
    by_cases hlt : (j : Int) < (nn : Int)
    · have HWS : Hid (W.heap.size ≤ wr.heap.size) := HKr.out.size
      go_upto_region 7 with (go_at_call 54; refine (dNone_is al nl cl (.slice an nn cn) x2 (.slice ap np cp) wr HNL.out).mono ?_; rintro e w1 ⟨g, rfl, hg, ht1, hk1⟩; have HGG := hide1 hg; have HT1 := hide1 ht1; have HKa := hide1 hk1; clear hg ht1 hk1)
      clear s0 s1 s2 s3
      have HOa := hide1 (HO.out.keep HKa.out)
      have HMJ : Hid ((G.map (tabV nl)).length = j) := by show _ = _; rw [List.length_map]; exact HGL.out
      have HLE : Hid ((G.map (tabV nl)).length ≤ 8388608) := by have := HMJ.out; show _ ≤ _; omega
      have HFA : Hid (FamN nl W.heap.size w1 (G ++ [(g, List.replicate (nl + 2) false)])) := (HFN.out.keep HKa.out).add (fun i x hx e => by have := (HFN.out.tab i x hx).1.lt; have := HGG.out; omega) HT1.out List.length_replicate (by have := HGG.out; have := HWS.out; omega)
      have HKb := hide1 (gtrans HKr.out HKa.out)
      go_wp2_with (at_builtin; go_must (refine wpl_sets rfl _ _ rfl _ W.heap.size _ _ j HMJ.out (by rfl) (HOa.out.keep (w' := w1.alloc (.cells #[.slice (some ⟨g, 0, none⟩) (nl + 2) (nl + 2)] 107)) ((Kept.refl w1).alloc _ _)) w1.heap.size (.slice (some ⟨g, 0, none⟩) (nl + 2) (nl + 2)) rfl (by rfl) (heap_alloc_new w1 _) HLE.out (by exact Nat.le_trans HKb.out.size (allocS_le w1 _)) ?_; intro g9 c9 w9 ho9 hg9 hor9 hl9; have HO9 := hide1 ho9; have HF9 := hide1 (HFA.out.grown HOa.out hg9); have HK9 : Hid (Kept W w9) := sets_grown HKb.out (Nat.le_refl _) HOa.out hg9; clear ho9 hg9 hor9 hl9))
      go_roundw
      case rel => exact ⟨j + 1, G ++ [(g, List.replicate (nl + 2) false)], by go_num, by omega, ⟨_, _, rfl⟩, (by show _ = _; rw [List.length_append, HGL.out]; rfl), (by show SetsO _ _ _ _; rw [List.map_append]; exact HO9.out), HF9, famF_zero HZ.out, HK9⟩
      case measure => simp [intOf]; omega
    · have hjn : j = nn := by omega
      subst hjn
      obtain ⟨gf, rfl⟩ : ∃ gf, a = some ⟨gf, 0, none⟩ := own_addr HO.out (by rw [List.length_map, HGL.out]; exact HN1.out)
      obtain ⟨hfs, hcf⟩ := fam_of HGL.out HO.out HFN.out
      have HFS := hide1 hfs
      clear hfs hlt hj
      go_wp2_with fail
      clear s0 s1 s2 s3
      go_loopw [7] (FbI nl j gf (bitsOf es) ps W) (fun f wr => 2 * leftF (rdFam7 gf j wr) + flagN f)
      case atStart => exact ⟨G, true, rfl, HFS, fun x hx => (by unfold famS at hx; rw [HZ.out] at hx; simp at hx), fun h => (by cases h), HKr⟩
      case round =>
        obtain ⟨G1, fl, rfl, HF1, HSO, HFI, HKo⟩ := hrel
        cases fl with
        | true =>
          go_wp2_with fail
          go_loopw [7, 8] (FbJ nl j gf (bitsOf es) ps (famF G1) W) (fun _ i _ => np - (intOf i).toNat)
          case atStart => exact ⟨0, G1, false, rfl, rfl, Nat.zero_le _, HF1, LfStep.start _ (fun i => by omega), ⟨fun _ => rfl, fun h => (by cases h)⟩, HKo⟩
          case round =>
            obtain ⟨m, G2, f2, rfl, rfl, hm, HF2, HST, HFL, HKi⟩ := hrel
            rw [HPS.out] at hm
            obtain ⟨s0, s1, s2, s3⟩ := (HBW.out.keep HKi.out).facts
            by_cases hlt : (m : Int) < (np : Int)
            · obtain ⟨p, hp⟩ : ∃ p, ps[m]? = some p := ⟨_, List.getElem?_eq_getElem (by have := HPS.out; omega)⟩
              obtain ⟨cb, o2, cs, ea, hcb, hlen, hcell, v', hcs, hrt⟩ := SliceOf.el (HP.out.keep (gtrans HKW.out HKi.out)) hp
              subst ea hcs
              have k0 : wr.cell? ⟨cb, o2 + m * 2, none⟩ = some (.int .i64 p.1) := hcell 0 _ rfl
              have k1 := hcell 1 _ rfl
              have gmc : (m : Int) < (cp : Int) := by omega
              have HOKp := hide1 (HOK.out p (List.mem_of_getElem? hp))
              have HPJ := hide1 hp
              obtain ⟨ar, cr, rfl, hcr, hnr⟩ := hrt.len
              obtain ⟨nr, hnr2⟩ : ∃ nr, p.2.length = nr := ⟨_, rfl⟩
              rw [hnr2] at hrt hcr hnr k1
              have HNR := hide1 hnr2
              have HRT := hide1 hrt
              obtain ⟨l, hl⟩ : ∃ l : Nat, p.1 = (l : Int) := ⟨p.1.toNat, by have := HOKp.out.1.1; omega⟩
              have HLE : Hid (p.1.toNat = l) := by show _ = _; omega
              have gln : (l : Int) < (j : Int) := by have := HOKp.out.1; omega
              rw [hl] at k0
              clear hp hcell hrt hnr2 hl
              have HPB := hide1 (PBox.new wr (.int .i64 (l : Int)) (.slice ar nr cr))
              have HK4 : Hid (Kept wr (wr.alloc (.cells #[.int .i64 (l : Int), .slice ar nr cr] 40))) := (Kept.refl wr).alloc _ _
              go_upto_region 15 with fail
              clear k0 k1 s0 s1 s2 s3
              obtain ⟨W4, hW4⟩ : ∃ W4, wr.alloc (.cells #[.int .i64 (l : Int), .slice ar nr cr] 40) = W4 := ⟨_, rfl⟩
              rw [hW4] at HPB HK4 ⊢
              clear hW4
              obtain ⟨pb, hpb⟩ : ∃ pb, wr.heap.size = pb := ⟨_, rfl⟩
              rw [hpb] at HPB ⊢
              have HPBW : Hid (wr.heap.size ≤ pb) := Nat.le_of_eq hpb
              clear hpb
              obtain ⟨p0, p1⟩ := HPB.out.cells
              have HKW4 := hide1 (gtrans HKi.out HK4.out)
              have HF4 := hide1 (HF2.out.keep HK4.out)
              obtain ⟨s0, s1, s2, s3⟩ := (HBW.out.keep HKW4.out).facts
              go_upto_region 16 with (go_at_call 56; refine (dHeadsF_is k lex p.2 al ar none nl cl nr cr 0 0 gf c ge j j G2 es [] (.slice an j cn) x2 _ W4 HNL.out HNN.out HLEN.out HNR.out HF4.out.len HEL.out rfl (Nat.zero_le _) (Nat.le_refl _) hcf (Nat.le_refl _) (HRT.out.keep HK4.out) HOKp.out.2 HF4.out.fam (HE.out.keep HKW4.out) (.inl rfl)).mono ?_; rintro e w5 ⟨h, hs, rfl, h51, h52, h53, h54, h55⟩; have HHG := hide1 h51; have HHL := hide1 h52; have HHB := hide1 h53; have HHT := hide1 h54; have HK5 := hide1 h55; clear h51 h52 h53 h54 h55)
              clear s0 s1 s2 s3 p0 p1
              have HF5 := hide1 (HF4.out.keep HK5.out)
              have HKW5 := hide1 (gtrans HKW4.out HK5.out)
              have HPB5 := hide1 (HPB.out.keep HK5.out)
              obtain ⟨⟨gl', ms⟩, hgx⟩ : ∃ x, G2[l]? = some x := ⟨_, List.getElem?_eq_getElem (by have := HF5.out.len; omega)⟩
              have HGX := hide1 hgx
              have c0 : w5.cell? ⟨gf, l, none⟩ = some (.slice (some ⟨gl', 0, none⟩) (nl + 2) (nl + 2)) := HF5.out.fam.cell l _ hgx
              have HTL := hide1 (HF5.out.fam.tab l _ hgx)
              have HWL := hide1 (HF5.out.apart.tab l _ hgx).2.2
              have glc : (l : Int) < (c : Int) := by omega
              have HNE : Hid (h ≠ gl') := by have h1 := ((HF4.out.fam.tab l _ hgx).1).lt; have h2 := HHG.out; show _ ≠ _; omega
              have HPL : Hid (pb ≠ gl') := by have h1 := ((HF2.out.fam.tab l _ hgx).1).lt; have h2 := HPBW.out; show _ ≠ _; omega
              clear hgx
              obtain ⟨p0, p1⟩ := HPB5.out.cells
              have HAD := hide1 (dAdd_is gl' ms hs (some ⟨h, 0, none⟩) (nl + 2) (nl + 2) (nl + 2) (nl + 2) w5 HTL.out.2 HHL.out (Nat.le_refl _) (by omega) (Nat.le_refl _) (Nat.le_refl _) HTL.out.1 (.inr ⟨h, rfl, HNE.out, HHT.out⟩))
              by_cases hne : bitsOf ms ||| bitsOf hs = bitsOf ms
              · have HNEQ := hide1 hne
                have HAD2 : Hid (Calls Tryd.prog 61 #[.slice (some ⟨gl', 0, none⟩) (nl + 2) (nl + 2), .slice (some ⟨h, 0, none⟩) (nl + 2) (nl + 2)] w5 (AddF gl' (nl + 2) ms hs false w5)) := HAD.out.mono (fun e w6 h6 => add_false h6 hne)
                go_wp2_with (go_at_call 61; refine HAD2.out.mono ?_; rintro e w6 ⟨ys, h61, h62, rfl, h64, h65⟩; have HYL := hide1 h61; have HYB := hide1 h62; have HT6 := hide1 h64; have HK6 := hide1 h65; clear h61 h62 h64 h65)
                have HF6 := hide1 (HF5.out.put HGX.out HT6.out HYL.out HK6.out)
                have HFQ := hide1 (famF_set HGX.out HYB.out)
                have HKW6 : Hid (Kept W w6) := kept_ofB HKW5.out HK6.out HWL.out
                have HS6 := hide1 (fiF_step HPJ.out HLE.out HHB.out HST.out HFQ.out)
                go_roundw
                case rel => exact ⟨m + 1, G2.set l (gl', ys), f2, rfl, by go_num, by rw [HPS.out]; omega, HF6, HS6, ⟨fun h => (by rw [fiF_same HGX.out HYB.out hne]; exact HFL.out.1 h), fun h => (by rw [fiF_same HGX.out HYB.out hne]; exact HFL.out.2 h)⟩, HKW6⟩
                case measure => simp [intOf]; omega
              · have HNEQ := hide1 hne
                have HAD2 : Hid (Calls Tryd.prog 61 #[.slice (some ⟨gl', 0, none⟩) (nl + 2) (nl + 2), .slice (some ⟨h, 0, none⟩) (nl + 2) (nl + 2)] w5 (AddF gl' (nl + 2) ms hs true w5)) := HAD.out.mono (fun e w6 h6 => add_true h6 hne)
                go_wp2_with (go_at_call 61; refine HAD2.out.mono ?_; rintro e w6 ⟨ys, h61, h62, rfl, h64, h65⟩; have HYL := hide1 h61; have HYB := hide1 h62; have HT6 := hide1 h64; have HK6 := hide1 h65; clear h61 h62 h64 h65)
                have HF6 := hide1 (HF5.out.put HGX.out HT6.out HYL.out HK6.out)
                have HFQ := hide1 (famF_set HGX.out HYB.out)
                have HKW6 : Hid (Kept W w6) := kept_ofB HKW5.out HK6.out HWL.out
                have HS6 := hide1 (fiF_step HPJ.out HLE.out HHB.out HST.out HFQ.out)
                go_roundw
                case rel => exact ⟨m + 1, G2.set l (gl', ys), true, rfl, by go_num, by rw [HPS.out]; omega, HF6, HS6, ⟨fun h => (by cases h), fun _ => ⟨l, by omega, fiF_new HST.out.up HGX.out HYB.out hne⟩⟩, HKW6⟩
                case measure => simp [intOf]; omega
            · have hmn : m = ps.length := by have := HPS.out; omega
              have HST2 : Hid (LfStep (fun _ => False) (fun i => i < ps.length) (FiG nl (fun n => (bitsOf es).testBit n = true) ps) (famS (famF G1)) (famS (famF G2)) (fun i => i < ps.length)) := hmn ▸ HST
              go_wp2_with fail
              go_roundw
              case rel =>
                refine ⟨G2, f2, rfl, HF2, HST2.out.sound HSO.out, fun h => ?_, HKi⟩
                have e := HFL.out.1 h
                have h2 := HST2.out
                rw [e] at h2 ⊢
                exact h2
              case measure =>
                rw [HF2.out.rd, HF1.out.rd]
                cases f2 with
                | false => rw [HFL.out.1 rfl]; simp [flagN]
                | true =>
                  have := fam_flag HNN.out (famF_lt HF2.out HNL.out) (famF_lt HF1.out HNL.out) HST2.out.up (HFL.out.2 rfl)
                  simp [flagN]
                  omega
        | false =>
          have HFN2 : Hid (∀ x, famS (famF G1) x ↔ Fi nl (Mk false ps) ps x) := by
            intro x
            rw [← HEF.out]
            exact (HFI.out rfl).done (fun i h => h) (fun x h => h.elim) HSO.out x
          go_wp2_with fail
          go_ret
          exact ⟨gf, c, G1, rfl, hcf, fms_low HF1.out HKW.out.size, HFN2.out, gtrans HKW.out HKo.out⟩

end Ex
end Go.Proofs.YtggodknnfpegmaaDoor
namespace Go.Proofs.YtggodknnfpegmaaDoor
open Go.RowKit
attribute [local go_sem] Oper.semAt_some
namespace Ex

/-- The rules of Follow that are gone through: all of the first j productions, and the first m places of the next one. -/
def FoDn (j m : Nat) (i : Nat × Nat) : Prop := i.1 < j ∨ (i.1 = j ∧ i.2 < m)
abbrev FoSt (nl st E : Nat) (F : Nat → Nat) (ps : List ProdM) (F0 A : Nat → Nat) (j m : Nat) : Prop := LfStep (FoB nl st) (FoJ ps) (FoG nl (fun n => E.testBit n = true) (famS F) ps) (famS F0) (famS A) (FoDn j m)
theorem foF_start {nl st E : Nat} {F : Nat → Nat} {ps : List ProdM} {F0 : Nat → Nat} : FoSt nl st E F ps F0 F0 0 0 := LfStep.start _ (fun i h => by rcases h with h | h <;> omega)
theorem foF_next {nl st E j m : Nat} {F F0 A : Nat → Nat} {ps : List ProdM} {p : ProdM} (hp : ps[j]? = some p) (hm : p.2.length = m) (h : FoSt nl st E F ps F0 A j m) : FoSt nl st E F ps F0 A (j + 1) 0 := h.skip (fun k hk => by
  rcases (by unfold FoDn at hk; omega : k.1 < j ∨ k.1 = j) with h1 | h1
  · exact .inl (.inl h1)
  · by_cases h2 : k.2 < m
    · exact .inl (.inr ⟨h1, h2⟩)
    · refine .inr ?_
      rintro x ⟨q, y, hq, hy, _⟩
      rw [h1, hp] at hq
      injection hq with hq
      subst hq
      have := (List.getElem?_eq_some_iff.1 hy).1
      omega)
theorem foF_skip {nl st E j m : Nat} {F F0 A : Nat → Nat} {ps : List ProdM} {p : ProdM} {y : SymM} (hp : ps[j]? = some p) (hy : p.2[m]? = some y) (h3 : y.1 ≠ 3) (h : FoSt nl st E F ps F0 A j m) : FoSt nl st E F ps F0 A j (m + 1) := h.skip (fun k hk => by
  by_cases h1 : FoDn j m k
  · exact .inl h1
  · have e : k.1 = j ∧ k.2 = m := by unfold FoDn at hk h1; omega
    refine .inr ?_
    rintro x ⟨q, z, hq, hz, h3z, _⟩
    rw [e.1, hp] at hq
    injection hq with hq
    subst hq
    rw [e.2, hy] at hz
    injection hz with hz
    subst hz
    exact h3 h3z)
theorem foF_step {nl st E j m l yn : Nat} {F F0 A A' : Nat → Nat} {ps : List ProdM} {p : ProdM} {hs : List Bool} (hp : ps[j]? = some p) (hl : p.1.toNat = l) (hy : p.2[m]? = some (3, (yn : Int))) (hb : bitsOf hs = headsM nl E F (A l) (p.2.drop (m + 1)) 0) (h : FoSt nl st E F ps F0 A j m) (hF : A' = orV A yn (bitsOf hs)) : FoSt nl st E F ps F0 A' j (m + 1) := by
  subst hF
  have hbit : ∀ t, (bitsOf hs).testBit t = true ↔ HeadS nl (fun n => E.testBit n = true) (famS F) (fun t => famS A (l, t)) (p.2.drop (m + 1)) t := by
    intro t
    rw [hb, heads_bit]
    constructor
    · rintro (h0 | h0)
      · simp at h0
      · exact h0
    · intro h0
      exact .inr h0
  refine h.put (fo_up _ _ _ _) (i := (j, m)) ⟨p, hp, (List.getElem?_eq_some_iff.1 hy).1⟩ (fun k hk => ?_) (fun x hx => (fam_set _ _ _ x).2 (.inl hx)) (fun x hx => ?_) (fun x hx => ?_)
  · by_cases h1 : FoDn j m k
    · exact .inl h1
    · have e : k.1 = j ∧ k.2 = m := by unfold FoDn at hk h1; omega
      exact .inr (Prod.ext e.1 e.2)
  · rcases (fam_set _ _ _ x).1 hx with h1 | ⟨h1, h2⟩
    · exact .inl h1
    · exact .inr ⟨p, (3, (yn : Int)), hp, hy, rfl, by rw [h1]; exact (Int.toNat_natCast yn).symm, by rw [hl]; exact (hbit x.2).1 h2⟩
  · obtain ⟨q, z, hq, hz, _, h1, h2⟩ := hx
    have hq : ps[j]? = some q := hq
    have hz : q.2[m]? = some z := hz
    rw [hp] at hq
    injection hq with hq
    subst hq
    rw [hy] at hz
    injection hz with hz
    subst hz
    rw [hl] at h2
    exact (fam_set _ _ _ x).2 (.inr ⟨by rw [h1]; exact Int.toNat_natCast yn, (hbit x.2).2 h2⟩)
def GbI (nl nn gf st E : Nat) (F : Nat → Nat) (ps : List ProdM) (W : World) (vf : Value) (wr : World) : Prop := ∃ (G : List (Nat × List Bool)) (fl : Bool), vf = .bool fl ∧ Hid (FmS nl nn gf W.heap.size wr G) ∧ Hid ((famF G st).testBit (nl + 1) = true) ∧ Hid (∀ x, famS (famF G) x → Fo nl st (fun n => E.testBit n = true) (famS F) ps x) ∧ Hid (fl = false → FoSt nl st E F ps (famF G) (famF G) ps.length 0) ∧ Hid (Kept W wr)
def GbJ (nl nn gf st E : Nat) (F : Nat → Nat) (ps : List ProdM) (F0 : Nat → Nat) (W : World) (vf vi : Value) (wr : World) : Prop := ∃ (j : Nat) (G : List (Nat × List Bool)) (fl : Bool), vf = .bool fl ∧ vi = .int .i64 (j : Int) ∧ j ≤ ps.length ∧ Hid (FmS nl nn gf W.heap.size wr G) ∧ Hid (FoSt nl st E F ps F0 (famF G) j 0) ∧ Hid ((fl = false → famF G = F0) ∧ (fl = true → ∃ n, n < nn ∧ famF G n ≠ F0 n)) ∧ Hid (Kept W wr)
def GbK (nl nn gf st E : Nat) (F : Nat → Nat) (ps : List ProdM) (F0 : Nat → Nat) (W : World) (j len pb : Nat) (lv rv : Value) (vf vi : Value) (wr : World) : Prop := ∃ (m : Nat) (G : List (Nat × List Bool)) (fl : Bool), vf = .bool fl ∧ vi = .int .i64 (m : Int) ∧ m ≤ len ∧ Hid (FmS nl nn gf W.heap.size wr G) ∧ Hid (FoSt nl st E F ps F0 (famF G) j m) ∧ Hid ((fl = false → famF G = F0) ∧ (fl = true → ∃ n, n < nn ∧ famF G n ≠ F0 n)) ∧ Hid (PBox wr pb lv rv) ∧ Hid (∀ (i : Nat) (x : Nat × List Bool), G[i]? = some x → x.1 < pb) ∧ Hid (Kept W wr)
theorem set_low {G : List (Nat × List Bool)} {l g pb : Nat} {ms zs : List Bool} (hl : G[l]? = some (g, ms)) (h : ∀ (i : Nat) (x : Nat × List Bool), G[i]? = some x → x.1 < pb) : ∀ (i : Nat) (x : Nat × List Bool), (G.set l (g, zs))[i]? = some x → x.1 < pb := by
  intro i x hx
  by_cases e : i = l
  · subst e
    rw [List.getElem?_set_self (List.getElem?_eq_some_iff.1 hl).1] at hx
    injection hx with hx
    subst hx
    exact h i (g, ms) hl
  · rw [List.getElem?_set_ne (fun h => e h.symm)] at hx
    exact h i x hx
/-- What Follow answers. -/
def FolR (nl nn st : Nat) (ps : List ProdM) (w : World) (e : Ending) (w' : World) : Prop := ∃ (gf cf : Nat) (G : List (Nat × List Bool)) (F : Nat → Nat), e = .returned (.slice (some ⟨gf, 0, none⟩) nn cf) ∧ nn ≤ cf ∧ FmS nl nn gf w.heap.size w' G ∧ (∀ x, famS F x ↔ Fi nl (Mk false ps) ps x) ∧ (∀ x, famS (famF G) x ↔ Fo nl st (Mk false ps) (famS F) ps x) ∧ Kept w w'

end Ex
end Go.Proofs.YtggodknnfpegmaaDoor
namespace Go.Proofs.YtggodknnfpegmaaDoor
open Go.RowKit
attribute [local go_sem] Oper.semAt_some
namespace Ex

set_option linter.unusedSimpArgs false in
set_option maxRecDepth 100000 in
set_option maxHeartbeats 8000000 in
/-- The document's Follow of a spec in order. -/
theorem dFollow_is (k : Nat) (lex : List (LexM k)) (ps : List ProdM) (al an ap : Option Addr) (nl cl nn cn np cp st : Nat) (w : World) (hnl : nl ≤ 64) (hnn : nn ≤ 128) (hst : st < nn) (hlex : lex.length = nl) (hps : ps.length = np) (hp : ProdsAt w (.slice ap np cp) ps) (hok : ∀ p ∈ ps, (0 ≤ p.1 ∧ p.1 < (nn : Int)) ∧ ∀ x ∈ p.2, symErr lex nn x = 0) :
    Calls Tryd.prog 31 #[.agg #[.slice al nl cl, .slice an nn cn, .int .i64 (st : Int), .slice ap np cp]] w (FolR nl nn st ps w) := by
  have HK1 : Hid (Kept w (w.alloc (.cells #[.slice al nl cl, .slice an nn cn, .int .i64 (st : Int), .slice ap np cp] 26))) := (Kept.refl w).alloc _ _
  have HB1 := hide1 (SBox.new w (.slice al nl cl) (.slice an nn cn) (.int .i64 (st : Int)) (.slice ap np cp))
  have HP := hide1 hp
  have HPS := hide1 hps
  have HOK := hide1 hok
  have HEN := hide1 (exact_names hlex hok)
  have HNN := hide1 hnn
  have HNL := hide1 hnl
  have HLEN := hide1 hlex
  have HST := hide1 hst
  have gst : (st : Int) < (nn : Int) := by omega
  have HN1 : Hid (0 < nn) := by show _ < _; omega
  obtain ⟨_, _, e1, hc, hn⟩ := hp.len
  simp only [Value.slice.injEq] at e1
  obtain ⟨rfl, en, rfl⟩ := e1
  clear en
  rw [hps] at hc hn
  have gn : (nn : Int) ≤ 128 := by omega
  have gl : (nl : Int) ≤ 64 := by omega
  have gp : (np : Int) ≤ 17592186044416 := by omega
  clear hp hps hok hlex
  go_enter Tryd.func31, Tryd.ntmps31
  go_upto_region 1 with fail
  obtain ⟨W0, hW0⟩ : ∃ W0, w.alloc (.cells #[.slice al nl cl, .slice an nn cn, .int .i64 (st : Int), .slice ap np cp] 26) = W0 := ⟨_, rfl⟩
  rw [hW0] at HK1 HB1 ⊢
  clear hW0
  obtain ⟨b, hb⟩ : ∃ b, w.heap.size = b := ⟨_, rfl⟩
  rw [hb] at HB1 ⊢
  clear hb
  obtain ⟨s0, s1, s2, s3⟩ := HB1.out.facts
  go_upto_region 2 with (go_at_call 28; refine (dNullable_is ps (.slice al nl cl) (.int .i64 (st : Int)) an ap nn cn np cp W0 HNN.out HPS.out (HP.out.keep HK1.out) HEN.out).mono ?_; rintro e Wn ⟨es, ge, rfl, h1, h2, h3, h4, h5⟩; have HEL := hide1 h1; have HEM := hide1 h2; have HE := hide1 h4; have HK2 := hide1 h5; clear h1 h2 h3 h4 h5)
  clear s0 s1 s2 s3
  have HBn := hide1 (HB1.out.keep HK2.out)
  have HKn := hide1 (gtrans HK1.out HK2.out)
  obtain ⟨s0, s1, s2, s3⟩ := HBn.out.facts
  go_upto_region 3 with (go_at_call 30; refine (dFirst_is k lex ps al an ap nl cl nn cn np cp (.int .i64 (st : Int)) Wn HNL.out HNN.out HN1.out HLEN.out HPS.out (HP.out.keep HKn.out) HOK.out).mono ?_; rintro e W ⟨g1, c1, G1, rfl, h1, h2, h3, h4⟩; have HC1 := hide1 h1; have HM1 := hide1 h2; have HI1 := hide1 h3; have HKf := hide1 h4; clear h1 h2 h3 h4)
  clear s0 s1 s2 s3
  have HBW := hide1 (HBn.out.keep HKf.out)
  have HKW := hide1 (gtrans HKn.out HKf.out)
  have HEW := hide1 (HE.out.keep HKf.out)
  have HEF : Hid ((fun n => (bitsOf es).testBit n = true) = Mk false ps) := funext (fun n => propext (HEM.out n))
  go_wp2_with fail
  go_loopw [5, 6] (FaI nl nn W) (fun _ i _ => nn - (intOf i).toNat)
  case atStart => exact ⟨0, [], rfl, Nat.zero_le _, ⟨none, 0, rfl⟩, rfl, SetsO.nil _ _, ⟨fun i x hx => (by simp at hx), fun i j x y hx => (by simp at hx)⟩, fun n => rfl, Kept.refl W⟩
  case round =>
    obtain ⟨j, G, rfl, hj, ⟨a, c, rfl⟩, HGL, HO, HFN, HZ, HKr⟩ := hrel
    obtain ⟨s0, s1, s2, s3⟩ := (HBW.out.keep HKr.out).facts
    by_cases hlt : (j : Int) < (nn : Int)
    · have HWS : Hid (W.heap.size ≤ wr.heap.size) := HKr.out.size
      go_upto_region 8 with (go_at_call 54; refine (dNone_is al nl cl (.slice an nn cn) (.int .i64 (st : Int)) (.slice ap np cp) wr HNL.out).mono ?_; rintro e w1 ⟨g, rfl, hg, ht1, hk1⟩; have HGG := hide1 hg; have HT1 := hide1 ht1; have HKa := hide1 hk1; clear hg ht1 hk1)
      clear s0 s1 s2 s3
      have HOa := hide1 (HO.out.keep HKa.out)
      have HMJ : Hid ((G.map (tabV nl)).length = j) := by show _ = _; rw [List.length_map]; exact HGL.out
      have HLE : Hid ((G.map (tabV nl)).length ≤ 8388608) := by have := HMJ.out; show _ ≤ _; omega
      have HFA : Hid (FamN nl W.heap.size w1 (G ++ [(g, List.replicate (nl + 2) false)])) := (HFN.out.keep HKa.out).add (fun i x hx e => by have := (HFN.out.tab i x hx).1.lt; have := HGG.out; omega) HT1.out List.length_replicate (by have := HGG.out; have := HWS.out; omega)
      have HKb := hide1 (gtrans HKr.out HKa.out)
      go_wp2_with (at_builtin; go_must (refine wpl_sets rfl _ _ rfl _ W.heap.size _ _ j HMJ.out (by rfl) (HOa.out.keep (w' := w1.alloc (.cells #[.slice (some ⟨g, 0, none⟩) (nl + 2) (nl + 2)] 107)) ((Kept.refl w1).alloc _ _)) w1.heap.size (.slice (some ⟨g, 0, none⟩) (nl + 2) (nl + 2)) rfl (by rfl) (heap_alloc_new w1 _) HLE.out (by exact Nat.le_trans HKb.out.size (allocS_le w1 _)) ?_; intro g9 c9 w9 ho9 hg9 hor9 hl9; have HO9 := hide1 ho9; have HF9 := hide1 (HFA.out.grown HOa.out hg9); have HK9 : Hid (Kept W w9) := sets_grown HKb.out (Nat.le_refl _) HOa.out hg9; clear ho9 hg9 hor9 hl9))
      go_roundw
      case rel => exact ⟨j + 1, G ++ [(g, List.replicate (nl + 2) false)], by go_num, by omega, ⟨_, _, rfl⟩, (by show _ = _; rw [List.length_append, HGL.out]; rfl), (by show SetsO _ _ _ _; rw [List.map_append]; exact HO9.out), HF9, famF_zero HZ.out, HK9⟩
      case measure => simp [intOf]; omega
    · have hjn : j = nn := by omega
      subst hjn
      obtain ⟨gf, rfl⟩ : ∃ gf, a = some ⟨gf, 0, none⟩ := own_addr HO.out (by rw [List.length_map, HGL.out]; exact HN1.out)
      obtain ⟨hfs, hcf⟩ := fam_of HGL.out HO.out HFN.out
      have HFS := hide1 hfs
      clear hfs hlt hj
      obtain ⟨⟨gs, us⟩, hgs⟩ : ∃ x, G[st]? = some x := ⟨_, List.getElem?_eq_getElem (by have := HFS.out.len; have := HST.out; omega)⟩
      have cS : wr.cell? ⟨gf, st, none⟩ = some (.slice (some ⟨gs, 0, none⟩) (nl + 2) (nl + 2)) := HFS.out.fam.cell st _ hgs
      have HTS := hide1 (HFS.out.fam.tab st _ hgs).1
      have HUL := hide1 (HFS.out.fam.tab st _ hgs).2
      have HGS : Hid (gf ≠ gs) := fun e => HFS.out.ne st _ hgs e.symm
      have HBS : Hid (b ≠ gs) := by have h1 := (HFS.out.apart.tab st _ hgs).2.2; have h2 := HBW.out.lt; show b ≠ gs; simp only at h1; omega
      have HLOW : Hid (W.heap.size ≤ gs) := (HFS.out.apart.tab st _ hgs).2.2
      have HGX0 := hide1 hgs
      obtain ⟨u, hu⟩ : ∃ u, us[nl + 1]? = some u := ⟨_, List.getElem?_eq_getElem (by have h := HUL.out; simp only at h; omega)⟩
      have HUS := hide1 hu
      have HUZ : Hid (bitsOf us = 0) := by have h := HZ.out st; rw [famF_at hgs] at h; exact h
      have gstc : (st : Int) < (c : Int) := by omega
      clear hgs hu
      go_upto_region 9 with fail
      clear s0 s1 s2 s3
      refine wp_region_held_drew (S := fun X => KeptBut gs wr X) (by kernel_rfl) (but_refl gs wr) (fun hHeld => ?_)
      have HKD := hide1 (drew_kept wr)
      generalize wr.drew = D at HKD hHeld ⊢
      refine wpAnyH_take (i := 0) (v := .slice (some ⟨gf, 0, none⟩) j c) rfl (by kernel_rfl) (by kernel_rfl) (by kernel_rfl) (fun _ _ _ h => h) (Or.inl ⟨by rfl, fun w' hSw => ?_⟩) (by with_reducible assumption) ?_
      · clear hSw
        go_simp
      try simp only [Act.put, List.setIfInBounds_toArray, List.set_cons_zero, List.set_cons_succ]
      refine wpAnyH_take (i := 1) (v := .pointer (some ⟨b, 2, none⟩)) rfl (by kernel_rfl) (by kernel_rfl) (by kernel_rfl) (fun _ _ _ h => h) (Or.inl ⟨by rfl, fun w' hSw => ?_⟩) (by with_reducible assumption) ?_
      · clear hSw
        go_simp
      try simp only [Act.put, List.setIfInBounds_toArray, List.set_cons_zero, List.set_cons_succ]
      refine wpAnyH_take (i := 2) (v := .int .i64 (st : Int)) rfl (by kernel_rfl) (by kernel_rfl) (by kernel_rfl) (fun _ _ _ h => h) (Or.inl ⟨by rfl, fun w' hSw => ?_⟩) (by with_reducible assumption) ?_
      · obtain ⟨s0, s1, s2, s3⟩ := SBox.facts (SBox.but (HBW.out.keep HKr.out) hSw HBS.out)
        clear s0 s1 s3
        clear hSw
        go_simp
      try simp only [Act.put, List.setIfInBounds_toArray, List.set_cons_zero, List.set_cons_succ]
      refine wpAnyH_take (i := 3) (v := .pointer (some ⟨gf, st, none⟩)) rfl (by kernel_rfl) (by kernel_rfl) (by kernel_rfl) (fun _ _ _ h => h) (Or.inl ⟨by rfl, fun w' hSw => ?_⟩) (by with_reducible assumption) ?_
      · clear hSw
        go_simp
      try simp only [Act.put, List.setIfInBounds_toArray, List.set_cons_zero, List.set_cons_succ]
      refine wpAnyH_take (i := 4) (v := .slice (some ⟨gs, 0, none⟩) (nl + 2) (nl + 2)) rfl (by kernel_rfl) (by kernel_rfl) (by kernel_rfl) (fun _ _ _ h => h) (Or.inl ⟨by rfl, fun w' hSw => ?_⟩) (by with_reducible assumption) ?_
      · have s0 := but_cellS hSw cS HGS.out
        clear hSw
        go_simp
      try simp only [Act.put, List.setIfInBounds_toArray, List.set_cons_zero, List.set_cons_succ]
      refine wpAnyH_take (i := 5) (v := .pointer (some ⟨b, 0, none⟩)) rfl (by kernel_rfl) (by kernel_rfl) (by kernel_rfl) (fun _ _ _ h => h) (Or.inl ⟨by rfl, fun w' hSw => ?_⟩) (by with_reducible assumption) ?_
      · clear hSw
        go_simp
      try simp only [Act.put, List.setIfInBounds_toArray, List.set_cons_zero, List.set_cons_succ]
      refine wpAnyH_take (i := 6) (v := .slice al nl cl) rfl (by kernel_rfl) (by kernel_rfl) (by kernel_rfl) (fun _ _ _ h => h) (Or.inl ⟨by rfl, fun w' hSw => ?_⟩) (by with_reducible assumption) ?_
      · obtain ⟨s0, s1, s2, s3⟩ := SBox.facts (SBox.but (HBW.out.keep HKr.out) hSw HBS.out)
        clear s1 s2 s3
        clear hSw
        go_simp
      try simp only [Act.put, List.setIfInBounds_toArray, List.set_cons_zero, List.set_cons_succ]
      refine wpAnyH_take (i := 7) (v := .int .i64 (nl : Int)) rfl (by kernel_rfl) (by kernel_rfl) (by kernel_rfl) (fun _ _ _ h => h) (Or.inl ⟨by rfl, fun w' hSw => ?_⟩) (by with_reducible assumption) ?_
      · clear hSw
        go_simp
      try simp only [Act.put, List.setIfInBounds_toArray, List.set_cons_zero, List.set_cons_succ]
      refine wpAnyH_take (i := 8) (v := .int .i64 ((nl : Int) + 1)) rfl (by kernel_rfl) (by kernel_rfl) (by kernel_rfl) (fun _ _ _ h => h) (Or.inl ⟨by rfl, fun w' hSw => ?_⟩) (by with_reducible assumption) ?_
      · have hw1 : IntKind.i64.wrap ((nl : Int) + 1) = (nl : Int) + 1 := by rw [IntKind.wrap_i64]; omega
        clear hSw
        go_simp
      try simp only [Act.put, List.setIfInBounds_toArray, List.set_cons_zero, List.set_cons_succ]
      refine wpAnyH_take (i := 9) (v := .pointer (some ⟨gs, nl + 1, none⟩)) rfl (by kernel_rfl) (by kernel_rfl) (by kernel_rfl) (fun _ _ _ h => h) (Or.inl ⟨by rfl, fun w' hSw => ?_⟩) (by with_reducible assumption) ?_
      · have hq1 : (nl : Int) + 1 < (nl : Int) + 2 := by omega
        have hq0 : ¬ ((nl : Int) + 1 < 0) := by omega
        clear hSw
        go_simp
      try simp only [Act.put, List.setIfInBounds_toArray, List.set_cons_zero, List.set_cons_succ]
      refine wpAnyH_ready (rs := [10]) (by kernel_rfl) (by simp) ?_
      refine AllReadyH.cons (i := 10) rfl (fun K hK => ?_) AllReadyH.nil
      have t0 := (HTS.out.keep HKD.out).cell HUS.out
      have z0 := (HTS.out.keep HKD.out).free (nl + 1)
      go_simp
      clear t0 z0
      refine hK.out _ _ (but_set (HKD.out.but gs) _ _) (fun hHeld2 => ?_)
      clear hK K hHeld
      have hHeld := hHeld2
      clear hHeld2
      try simp only [Act.put, List.setIfInBounds_toArray, List.set_cons_zero, List.set_cons_succ]
      refine wpAnyH_done (by kernel_rfl) ?_ _
      clear hHeld
      have HT9 := hide1 ((HTS.out.keep HKD.out).set (i := nl + 1))
      have HF9 := hide1 ((HFS.out.keep HKD.out).put HGX0.out HT9.out (by rw [List.length_set]; exact HUL.out) (but_set (but_refl gs D) (nl + 1) (.bool true)))
      have HB9 : Hid (bitsOf (us.set (nl + 1) true) = bitsOf us ||| 2 ^ (nl + 1)) := bits_set (by have h := HUL.out; simp only at h; omega)
      have HQ9 := hide1 (famF_set HGX0.out HB9.out)
      have HK9 : Hid (Kept W (D.setCell ⟨gs, nl + 1, none⟩ (.bool true))) := keepB (gtrans HKr.out HKD.out) HLOW.out
      obtain ⟨W9, hW9⟩ : ∃ W9, D.setCell ⟨gs, nl + 1, none⟩ (.bool true) = W9 := ⟨_, rfl⟩
      rw [hW9] at HF9 HK9 ⊢
      clear hW9 cS
      have HFZ : Hid (∀ x, famS (famF (G.set st (gs, us.set (nl + 1) true))) x ↔ x = (st, nl + 1)) := by
        intro x
        rw [HQ9.out, fam_set]
        constructor
        · rintro (h | ⟨h1, h2⟩)
          · unfold famS at h; rw [HZ.out] at h; simp at h
          · rw [Nat.testBit_two_pow] at h2
            have h3 : nl + 1 = x.2 := by simpa using h2
            exact Prod.ext h1 h3.symm
        · rintro rfl
          exact .inr ⟨rfl, Nat.testBit_two_pow_self⟩
      go_wp2_with fail
      go_loopw [8] (GbI nl j gf st (bitsOf es) (famF G1) ps W) (fun f wr => 2 * leftF (rdFam7 gf j wr) + flagN f)
      case atStart => exact ⟨G.set st (gs, us.set (nl + 1) true), true, rfl, HF9, (HFZ.out (st, nl + 1)).2 rfl, (fun x hx => by rw [(HFZ.out x).1 hx]; exact fun S hS => hS.1 _ rfl), fun h => (by cases h), HK9⟩
      case round =>
        obtain ⟨G2, fl, rfl, HF2, HS2, HSO, HFI, HKo⟩ := hrel
        cases fl with
        | true =>
          go_wp2_with fail
          go_loopw [8, 9] (GbJ nl j gf st (bitsOf es) (famF G1) ps (famF G2) W) (fun _ i _ => np - (intOf i).toNat)
          case atStart => exact ⟨0, G2, false, rfl, rfl, Nat.zero_le _, HF2, foF_start, ⟨fun _ => rfl, fun h => (by cases h)⟩, HKo⟩
          case round =>
            obtain ⟨m, G3, f3, rfl, rfl, hm, HF3, HST3, HFL, HKi⟩ := hrel
            rw [HPS.out] at hm
            obtain ⟨s0, s1, s2, s3⟩ := (HBW.out.keep HKi.out).facts
            by_cases hlt : (m : Int) < (np : Int)
            · obtain ⟨p, hp⟩ : ∃ p, ps[m]? = some p := ⟨_, List.getElem?_eq_getElem (by have := HPS.out; omega)⟩
              obtain ⟨cb, o2, cs, ea, hcb, hlen, hcell, v', hcs, hrt⟩ := SliceOf.el HP.out hp
              subst ea hcs
              have k0 : wr.cell? ⟨cb, o2 + m * 2, none⟩ = some (.int .i64 p.1) := grown_cell (gtrans HKW.out HKi.out) (hcell 0 _ rfl)
              have k1 := grown_cell (gtrans HKW.out HKi.out) (hcell 1 _ rfl)
              have gmc : (m : Int) < (cp : Int) := by omega
              have HOKp := hide1 (HOK.out p (List.mem_of_getElem? hp))
              have HPJ := hide1 hp
              obtain ⟨ar, cr, rfl, hcr, hnr⟩ := hrt.len
              obtain ⟨nr, hnr2⟩ : ∃ nr, p.2.length = nr := ⟨_, rfl⟩
              rw [hnr2] at hrt hcr hnr k1
              have HNR := hide1 hnr2
              have HRT := hide1 hrt
              obtain ⟨l, hl⟩ : ∃ l : Nat, p.1 = (l : Int) := ⟨p.1.toNat, by have := HOKp.out.1.1; omega⟩
              have HLE : Hid (p.1.toNat = l) := by show _ = _; omega
              have gln : (l : Int) < (j : Int) := by have := HOKp.out.1; omega
              rw [hl] at k0
              clear hp hcell hrt hnr2 hl
              have HPB := hide1 (PBox.new wr (.int .i64 (l : Int)) (.slice ar nr cr))
              have HK4 : Hid (Kept wr (wr.alloc (.cells #[.int .i64 (l : Int), .slice ar nr cr] 40))) := (Kept.refl wr).alloc _ _
              go_upto_region 17 with fail
              clear k0 k1 s0 s1 s2 s3
              obtain ⟨W4, hW4⟩ : ∃ W4, wr.alloc (.cells #[.int .i64 (l : Int), .slice ar nr cr] 40) = W4 := ⟨_, rfl⟩
              rw [hW4] at HPB HK4 ⊢
              clear hW4
              obtain ⟨pb, hpb⟩ : ∃ pb, wr.heap.size = pb := ⟨_, rfl⟩
              rw [hpb] at HPB ⊢
              have HLP : Hid (∀ (i : Nat) (x : Nat × List Bool), G3[i]? = some x → x.1 < pb) := fun i x hx => by rw [← hpb]; exact (HF3.out.fam.tab i x hx).1.lt
              clear hpb
              have gnr : (nr : Int) ≤ 17592186044416 := by omega
              have HF4 := hide1 (HF3.out.keep HK4.out)
              have HKW4 := hide1 (gtrans HKi.out HK4.out)
              go_wp2_with fail
              go_loopw [8, 11] (GbK nl j gf st (bitsOf es) (famF G1) ps (famF G2) W m nr pb (.int .i64 (l : Int)) (.slice ar nr cr)) (fun _ i _ => nr - (intOf i).toNat)
              case atStart => exact ⟨0, G3, f3, rfl, rfl, Nat.zero_le _, HF4, HST3, HFL, HPB, HLP, HKW4⟩
              case round =>
                obtain ⟨y, G4, f4, rfl, rfl, hy, HF5, HST5, HFL5, HPB5, HLP5, HKy⟩ := hrel
                obtain ⟨p0, p1⟩ := HPB5.out.cells
                by_cases hly : (y : Int) < (nr : Int)
                · obtain ⟨x, hx⟩ : ∃ x, p.2[y]? = some x := ⟨_, List.getElem?_eq_getElem (by have := HNR.out; omega)⟩
                  have HRTw := hide1 (HRT.out.keep (gtrans HKW.out HKy.out))
                  obtain ⟨cr2, or2, cs2, ea2, hcb2, hlen2, hcell2, hcs2⟩ := SliceOf.el HRTw.out hx
                  have hcs2 : cs2 = [.int .i64 x.1, .int .i64 x.2] := hcs2
                  subst ea2 hcs2
                  have k0 : wr.cell? ⟨cr2, or2 + y * 2, none⟩ = some (.int .i64 x.1) := hcell2 0 _ rfl
                  have k1 : wr.cell? ⟨cr2, or2 + y * 2 + 1, none⟩ = some (.int .i64 x.2) := hcell2 1 _ rfl
                  have gyc : (y : Int) < (cr : Int) := by omega
                  have HOX := hide1 (sym_three HLEN.out (HOKp.out.2 x (List.mem_of_getElem? hx)))
                  have HXM := hide1 hx
                  obtain ⟨kd, sn⟩ := x
                  dsimp only at k0 k1
                  clear hx hcell2
                  by_cases h3 : kd = 3
                  · subst h3
                    obtain ⟨q, rfl⟩ : ∃ q : Nat, sn = (q : Int) := ⟨sn.toNat, by rcases HOX.out with e | e | e <;> simp only at e <;> omega⟩
                    have gqn : (q : Int) < (j : Int) := by rcases HOX.out with e | e | e <;> simp only at e <;> omega
                    have gqc : (q : Int) < (c : Int) := by omega
                    have glc : (l : Int) < (c : Int) := by omega
                    obtain ⟨⟨gl', ms⟩, hgl⟩ : ∃ x, G4[l]? = some x := ⟨_, List.getElem?_eq_getElem (by have := HF5.out.len; omega)⟩
                    obtain ⟨⟨gq, ts⟩, hgq⟩ : ∃ x, G4[q]? = some x := ⟨_, List.getElem?_eq_getElem (by have := HF5.out.len; omega)⟩
                    have cL : wr.cell? ⟨gf, l, none⟩ = some (.slice (some ⟨gl', 0, none⟩) (nl + 2) (nl + 2)) := HF5.out.fam.cell l _ hgl
                    have cQ : wr.cell? ⟨gf, q, none⟩ = some (.slice (some ⟨gq, 0, none⟩) (nl + 2) (nl + 2)) := HF5.out.fam.cell q _ hgq
                    have HTL := hide1 (HF5.out.fam.tab l _ hgl)
                    have HTQ := hide1 (HF5.out.fam.tab q _ hgq)
                    have HQL := hide1 (HF5.out.apart.tab q _ hgq).2.2
                    have HFL2 := hide1 (famF_at hgl)
                    have HGQ := hide1 hgq
                    have HPQ : Hid (pb ≠ gq) := by have h := HLP5.out q _ hgq; show pb ≠ gq; simp only at h; omega
                    obtain ⟨rb2, rc2, hsl, hrr⟩ := right_rest HRTw.out (y + 1) (by omega)
                    obtain ⟨rn, hrne⟩ : ∃ rn, nr - (y + 1) = rn := ⟨_, rfl⟩
                    rw [hrne] at hsl hrr
                    have HRR := hide1 hrr
                    have HSL : Hid (∀ w', (Instr.sliceAt 38 (.slice (some ⟨cr2, or2, none⟩) nr cr) (some (.int .i64 ((y : Int) + 1))) none none).run Tryd.prog w' = .ok (.slice rb2 rn rc2) w') := hsl
                    have HRL : Hid ((p.2.drop (y + 1)).length = rn) := by show _ = _; rw [List.length_drop, HNR.out]; exact hrne
                    have HPBk := hide1 HPB5.out
                    clear hgl hgq hsl hrr hrne
                    go_upto_region 21 with fail
                    clear p0 p1 k0
                    refine wp_region_held_drew (S := fun X => Kept wr X) (by kernel_rfl) (Kept.refl wr) (fun hHeld => ?_)
                    have HKD := hide1 (drew_kept wr)
                    generalize wr.drew = D at HKD hHeld ⊢
                    refine wpAnyH_take (i := 0) (v := .agg #[.slice al nl cl, .slice an j cn, .int .i64 (st : Int), .slice (some ⟨cb, o2, none⟩) np cp]) rfl (by kernel_rfl) (by kernel_rfl) (by kernel_rfl) (fun _ _ _ h => h) (Or.inl ⟨by rfl, fun w' hSw => ?_⟩) (by with_reducible assumption) ?_
                    · obtain ⟨s0, s1, s2, s3⟩ := SBox.facts (HBW.out.keep (gtrans HKy.out hSw))
                      clear hSw
                      go_simp
                    try simp only [Act.put, List.setIfInBounds_toArray, List.set_cons_zero, List.set_cons_succ]
                    refine wpAnyH_take (i := 1) (v := .pointer (some ⟨pb, 1, none⟩)) rfl (by kernel_rfl) (by kernel_rfl) (by kernel_rfl) (fun _ _ _ h => h) (Or.inl ⟨by rfl, fun w' hSw => ?_⟩) (by with_reducible assumption) ?_
                    · clear hSw
                      go_simp
                    try simp only [Act.put, List.setIfInBounds_toArray, List.set_cons_zero, List.set_cons_succ]
                    refine wpAnyH_take (i := 2) (v := .slice (some ⟨cr2, or2, none⟩) nr cr) rfl (by kernel_rfl) (by kernel_rfl) (by kernel_rfl) (fun _ _ _ h => h) (Or.inl ⟨by rfl, fun w' hSw => ?_⟩) (by with_reducible assumption) ?_
                    · have s0 := (HPBk.out.keep hSw).cells.2
                      clear hSw
                      go_simp
                    try simp only [Act.put, List.setIfInBounds_toArray, List.set_cons_zero, List.set_cons_succ]
                    refine wpAnyH_take (i := 3) (v := .int .i64 (y : Int)) rfl (by kernel_rfl) (by kernel_rfl) (by kernel_rfl) (fun _ _ _ h => h) (Or.inl ⟨by rfl, fun w' hSw => ?_⟩) (by with_reducible assumption) ?_
                    · clear hSw
                      go_simp
                    try simp only [Act.put, List.setIfInBounds_toArray, List.set_cons_zero, List.set_cons_succ]
                    refine wpAnyH_take (i := 4) (v := .int .i64 ((y : Int) + 1)) rfl (by kernel_rfl) (by kernel_rfl) (by kernel_rfl) (fun _ _ _ h => h) (Or.inl ⟨by rfl, fun w' hSw => ?_⟩) (by with_reducible assumption) ?_
                    · have hw1 : IntKind.i64.wrap ((y : Int) + 1) = (y : Int) + 1 := by rw [IntKind.wrap_i64]; omega
                      clear hSw
                      go_simp
                    try simp only [Act.put, List.setIfInBounds_toArray, List.set_cons_zero, List.set_cons_succ]
                    refine wpAnyH_take (i := 5) (v := .slice rb2 rn rc2) rfl (by kernel_rfl) (by kernel_rfl) (by kernel_rfl) (fun _ _ _ h => h) (Or.inl ⟨by rfl, fun w' hSw => ?_⟩) (by with_reducible assumption) ?_
                    · have s0 := HSL.out
                      clear hSw
                      go_simp
                    try simp only [Act.put, List.setIfInBounds_toArray, List.set_cons_zero, List.set_cons_succ]
                    refine wpAnyH_take (i := 6) (v := .slice (some ⟨gf, 0, none⟩) j c) rfl (by kernel_rfl) (by kernel_rfl) (by kernel_rfl) (fun _ _ _ h => h) (Or.inl ⟨by rfl, fun w' hSw => ?_⟩) (by with_reducible assumption) ?_
                    · clear hSw
                      go_simp
                    try simp only [Act.put, List.setIfInBounds_toArray, List.set_cons_zero, List.set_cons_succ]
                    refine wpAnyH_take (i := 7) (v := .pointer (some ⟨pb, 0, none⟩)) rfl (by kernel_rfl) (by kernel_rfl) (by kernel_rfl) (fun _ _ _ h => h) (Or.inl ⟨by rfl, fun w' hSw => ?_⟩) (by with_reducible assumption) ?_
                    · clear hSw
                      go_simp
                    try simp only [Act.put, List.setIfInBounds_toArray, List.set_cons_zero, List.set_cons_succ]
                    refine wpAnyH_take (i := 8) (v := .int .i64 (l : Int)) rfl (by kernel_rfl) (by kernel_rfl) (by kernel_rfl) (fun _ _ _ h => h) (Or.inl ⟨by rfl, fun w' hSw => ?_⟩) (by with_reducible assumption) ?_
                    · have s0 := (HPBk.out.keep hSw).cells.1
                      clear hSw
                      go_simp
                    try simp only [Act.put, List.setIfInBounds_toArray, List.set_cons_zero, List.set_cons_succ]
                    refine wpAnyH_take (i := 9) (v := .pointer (some ⟨gf, l, none⟩)) rfl (by kernel_rfl) (by kernel_rfl) (by kernel_rfl) (fun _ _ _ h => h) (Or.inl ⟨by rfl, fun w' hSw => ?_⟩) (by with_reducible assumption) ?_
                    · clear hSw
                      go_simp
                    try simp only [Act.put, List.setIfInBounds_toArray, List.set_cons_zero, List.set_cons_succ]
                    refine wpAnyH_take (i := 10) (v := .slice (some ⟨gl', 0, none⟩) (nl + 2) (nl + 2)) rfl (by kernel_rfl) (by kernel_rfl) (by kernel_rfl) (fun _ _ _ h => h) (Or.inl ⟨by rfl, fun w' hSw => ?_⟩) (by with_reducible assumption) ?_
                    · have s0 := grown_cell hSw cL
                      clear hSw
                      go_simp
                    try simp only [Act.put, List.setIfInBounds_toArray, List.set_cons_zero, List.set_cons_succ]
                    refine wpAnyH_take (i := 11) (v := .slice (some ⟨g1, 0, none⟩) j c1) rfl (by kernel_rfl) (by kernel_rfl) (by kernel_rfl) (fun _ _ _ h => h) (Or.inl ⟨by rfl, fun w' hSw => ?_⟩) (by with_reducible assumption) ?_
                    · clear hSw
                      go_simp
                    try simp only [Act.put, List.setIfInBounds_toArray, List.set_cons_zero, List.set_cons_succ]
                    refine wpAnyH_take (i := 12) (v := .slice (some ⟨ge, 0, none⟩) j j) rfl (by kernel_rfl) (by kernel_rfl) (by kernel_rfl) (fun _ _ _ h => h) (Or.inl ⟨by rfl, fun w' hSw => ?_⟩) (by with_reducible assumption) ?_
                    · clear hSw
                      go_simp
                    try simp only [Act.put, List.setIfInBounds_toArray, List.set_cons_zero, List.set_cons_succ]
                    refine wpAnyH_ready (rs := [13]) (by kernel_rfl) (by simp) ?_
                    refine AllReadyH.cons (i := 13) rfl (fun K hK => ?_) AllReadyH.nil
                    go_simp
                    go_wp2_with (go_at_call 56; refine (dHeadsF_is k lex (p.2.drop (y + 1)) al rb2 (some ⟨gl', 0, none⟩) nl cl rn rc2 (nl + 2) (nl + 2) g1 c1 ge j j G1 es ms (.slice an j cn) (.int .i64 (st : Int)) _ D HNL.out HNN.out HLEN.out HRL.out HM1.out.len HEL.out HTL.out.2 (Nat.le_refl _) (Nat.le_refl _) HC1.out (Nat.le_refl _) (HRR.out.keep HKD.out) (fun x hx => HOKp.out.2 x (List.mem_of_mem_drop hx)) (HM1.out.keep (gtrans HKy.out HKD.out)).fam (HEW.out.keep (gtrans HKy.out HKD.out)) (.inr ⟨gl', rfl, HTL.out.1.keep HKD.out⟩)).mono ?_; rintro e w5 ⟨h, hs, rfl, h51, h52, h53, h54, h55⟩; have HHG := hide1 (Nat.le_trans HKD.out.size h51); have HHL := hide1 h52; have HHB := hide1 h53; have HHT := hide1 h54; have HK5 := hide1 (gtrans HKD.out h55); clear h51 h52 h53 h54 h55)
                    refine hK.out _ _ HK5.out (fun hHeld2 => ?_)
                    clear hK K hHeld
                    have hHeld := hHeld2
                    clear hHeld2
                    try simp only [Act.put, List.setIfInBounds_toArray, List.set_cons_zero, List.set_cons_succ]
                    refine wpAnyH_take (i := 14) (v := .slice (some ⟨h, 0, none⟩) (nl + 2) (nl + 2)) rfl (by kernel_rfl) (by kernel_rfl) (by kernel_rfl) (fun _ _ _ h => h) (Or.inl ⟨by rfl, fun w' hSw => ?_⟩) (by with_reducible assumption) ?_
                    · clear hSw
                      go_simp
                    try simp only [Act.put, List.setIfInBounds_toArray, List.set_cons_zero, List.set_cons_succ]
                    refine wpAnyH_done (by kernel_rfl) ?_ _
                    clear hHeld
                    clear cL
                    have HK5w := hide1 (gtrans HKy.out HK5.out)
                    have HF6 := hide1 (HF5.out.keep HK5.out)
                    obtain ⟨p0, p1⟩ := (HPB5.out.keep HK5.out).cells
                    have k1' := grown_cell HK5.out k1
                    have cQ' := grown_cell HK5.out cQ
                    have HNE : Hid (h ≠ gq) := by have h1 := HTQ.out.1.lt; have h2 := HHG.out; show h ≠ gq; omega
                    have HAD := hide1 (dAdd_is gq ts hs (some ⟨h, 0, none⟩) (nl + 2) (nl + 2) (nl + 2) (nl + 2) w5 HTQ.out.2 HHL.out (Nat.le_refl _) (by omega) (Nat.le_refl _) (Nat.le_refl _) (HTQ.out.1.keep HK5.out) (.inr ⟨h, rfl, HNE.out, HHT.out⟩))
                    clear k1 cQ
                    by_cases hne : bitsOf ts ||| bitsOf hs = bitsOf ts
                    · have HAD2 : Hid (Calls Tryd.prog 61 #[.slice (some ⟨gq, 0, none⟩) (nl + 2) (nl + 2), .slice (some ⟨h, 0, none⟩) (nl + 2) (nl + 2)] w5 (AddF gq (nl + 2) ts hs false w5)) := HAD.out.mono (fun e w6 h6 => add_false h6 hne)
                      go_wp2_with (go_at_call 61; refine HAD2.out.mono ?_; rintro e w6 ⟨ys, h61, h62, rfl, h64, h65⟩; have HYL := hide1 h61; have HYB := hide1 h62; have HT6 := hide1 h64; have HK6 := hide1 h65; clear h61 h62 h64 h65)
                      have HF7 := hide1 (HF6.out.put HGQ.out HT6.out HYL.out HK6.out)
                      have HFQ := hide1 (famF_set HGQ.out HYB.out)
                      have HKW6 : Hid (Kept W w6) := kept_ofB HK5w.out HK6.out HQL.out
                      have HS6 := hide1 (foF_step HPJ.out HLE.out HXM.out (by rw [HFL2.out]; exact HHB.out) HST5.out HFQ.out)
                      have HPB7 := hide1 ((HPB5.out.keep HK5.out).but HK6.out HPQ.out)
                      have HLP7 := hide1 (set_low HGQ.out HLP5.out (zs := ys))
                      go_roundw
                      case rel => exact ⟨y + 1, G4.set q (gq, ys), f4, rfl, by go_num, by omega, HF7, HS6, ⟨fun h => (by rw [fiF_same HGQ.out HYB.out hne]; exact HFL5.out.1 h), fun h => (by rw [fiF_same HGQ.out HYB.out hne]; exact HFL5.out.2 h)⟩, HPB7, HLP7, HKW6⟩
                      case measure => simp [intOf]; omega
                    · have HAD2 : Hid (Calls Tryd.prog 61 #[.slice (some ⟨gq, 0, none⟩) (nl + 2) (nl + 2), .slice (some ⟨h, 0, none⟩) (nl + 2) (nl + 2)] w5 (AddF gq (nl + 2) ts hs true w5)) := HAD.out.mono (fun e w6 h6 => add_true h6 hne)
                      go_wp2_with (go_at_call 61; refine HAD2.out.mono ?_; rintro e w6 ⟨ys, h61, h62, rfl, h64, h65⟩; have HYL := hide1 h61; have HYB := hide1 h62; have HT6 := hide1 h64; have HK6 := hide1 h65; clear h61 h62 h64 h65)
                      have HF7 := hide1 (HF6.out.put HGQ.out HT6.out HYL.out HK6.out)
                      have HFQ := hide1 (famF_set HGQ.out HYB.out)
                      have HKW6 : Hid (Kept W w6) := kept_ofB HK5w.out HK6.out HQL.out
                      have HS6 := hide1 (foF_step HPJ.out HLE.out HXM.out (by rw [HFL2.out]; exact HHB.out) HST5.out HFQ.out)
                      have HPB7 := hide1 ((HPB5.out.keep HK5.out).but HK6.out HPQ.out)
                      have HLP7 := hide1 (set_low HGQ.out HLP5.out (zs := ys))
                      go_roundw
                      case rel => exact ⟨y + 1, G4.set q (gq, ys), true, rfl, by go_num, by omega, HF7, HS6, ⟨fun h => (by cases h), fun _ => ⟨q, by omega, fiF_new HST5.out.up HGQ.out HYB.out hne⟩⟩, HPB7, HLP7, HKW6⟩
                      case measure => simp [intOf]; omega
                  · have b3 : (kd == 3) = false := by simpa using h3
                    have HST6 := hide1 (foF_skip HPJ.out HXM.out h3 HST5.out)
                    clear h3
                    go_wp2_with fail
                    go_roundw
                    case rel => exact ⟨y + 1, G4, f4, rfl, by go_num, by omega, HF5, HST6, HFL5, HPB5, HLP5, HKy⟩
                    case measure => simp [intOf]; omega
                · have HST6 := hide1 (foF_next HPJ.out (by rw [HNR.out]; omega) HST5.out)
                  go_wp2_with fail
                  go_roundw
                  case rel => exact ⟨m + 1, G4, f4, rfl, by go_num, by rw [HPS.out]; omega, HF5, HST6, HFL5, HKy⟩
                  case measure => simp [intOf]; omega
            · have hmn : m = ps.length := by have := HPS.out; omega
              have HST4 : Hid (FoSt nl st (bitsOf es) (famF G1) ps (famF G2) (famF G3) ps.length 0) := hmn ▸ HST3
              go_wp2_with fail
              go_roundw
              case rel =>
                refine ⟨G3, f3, rfl, HF3, HST4.out.up (st, nl + 1) HS2.out, HST4.out.sound HSO.out, fun h => ?_, HKi⟩
                have e := HFL.out.1 h
                have h2 := HST4.out
                rw [e] at h2 ⊢
                exact h2
              case measure =>
                rw [HF3.out.rd, HF2.out.rd]
                cases f3 with
                | false => rw [HFL.out.1 rfl]; simp [flagN]
                | true =>
                  have := fam_flag HNN.out (famF_lt HF3.out HNL.out) (famF_lt HF2.out HNL.out) HST4.out.up (HFL.out.2 rfl)
                  simp [flagN]
                  omega
        | false =>
          have HFN2 : Hid (∀ x, famS (famF G2) x ↔ Fo nl st (Mk false ps) (famS (famF G1)) ps x) := by
            intro x
            rw [← HEF.out]
            exact (HFI.out rfl).done (fun i h => .inl (by obtain ⟨p, hp, _⟩ := h; exact (List.getElem?_eq_some_iff.1 hp).1)) (fun x h => by rw [show x = (st, nl + 1) from h]; exact HS2.out) HSO.out x
          go_wp2_with fail
          go_ret
          exact ⟨gf, c, G2, famF G1, rfl, hcf, fms_low HF2.out HKW.out.size, HI1.out, HFN2.out, gtrans HKW.out HKo.out⟩

end Ex
end Go.Proofs.YtggodknnfpegmaaDoor
