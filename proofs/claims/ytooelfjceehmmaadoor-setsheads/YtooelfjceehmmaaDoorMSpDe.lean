import Derived.Test.YtooelfjceehmmaaDoorMSpDr
namespace Go.Proofs.YtooelfjceehmmaaDoor
open Go.RowKit
attribute [local go_sem] Oper.semAt_some
namespace Ex

/-- A table of numbers, alone in its block. -/
def TabI (w : World) (g : Nat) (ms : List Nat) : Prop := w.heap[g]? = some (.cells (ms.map (fun n : Nat => Value.int .i64 (n : Int))).toArray 3 (0, 0))
theorem TabI.cell {w : World} {g i : Nat} {x : Nat} {ms : List Nat} (h : TabI w g ms) (hi : ms[i]? = some x) : w.cell? ⟨g, i, none⟩ = some (.int .i64 (x : Int)) := by
  unfold TabI at h
  simp [World.cell?, h, hi]
theorem TabI.free {w : World} {g : Nat} {ms : List Nat} (i : Nat) (h : TabI w g ms) : w.frozen? ⟨g, i, none⟩ = false := by
  unfold TabI at h
  simp [World.frozen?, h]
theorem TabI.lt {w : World} {g : Nat} {ms : List Nat} (h : TabI w g ms) : g < w.heap.size := (Array.getElem?_eq_some_iff.1 h).1
theorem TabI.keep {w w' : World} {g : Nat} {ms : List Nat} (h : TabI w g ms) (hk : Kept w w') : TabI w' g ms := (hk.2.2.2.2 g h.lt).trans h
theorem TabI.set {w : World} {g i n : Nat} {ms : List Nat} (h : TabI w g ms) : TabI (w.setCell ⟨g, i, none⟩ (.int .i64 (n : Int))) g (ms.set i n) := by
  unfold TabI at h ⊢
  have hl : g < w.heap.size := (Array.getElem?_eq_some_iff.1 h).1
  have he : w.heap[g] = Obj.cells (ms.map (fun n : Nat => Value.int .i64 (n : Int))).toArray 3 (0, 0) := by rw [Array.getElem?_eq_getElem hl] at h; exact Option.some.inj h
  simp [World.setCell, Array.getElem_modify, hl, he, List.map_set]
def rdTabI (g : Nat) (w : World) : List Nat := match w.heap[g]? with | some (.cells cs _ _) => cs.toList.map (fun v => match v with | .int _ n => n.toNat | _ => 0) | _ => []
theorem TabI.rd {w : World} {g : Nat} {ms : List Nat} (h : TabI w g ms) : rdTabI g w = ms := by
  unfold TabI at h
  unfold rdTabI
  rw [h]
  simp [List.map_map, Function.comp_def]
theorem int_infoS : (Tryd.prog.info? 3).map (fun i => (i.zero, i.size, i.bytes)) = some (some (.int .i64 0), 1, 8) := by kernel_rfl
theorem run_tabI (n : Nat) (hn : n ≤ 300000) (w : World) : (Instr.makeSlice 41 (.int .i64 (n : Int)) (.int .i64 (n : Int))).run Tryd.prog w = .ok (.slice (some ⟨w.heap.size, 0, none⟩) n n) (w.alloc (.cells (Array.replicate n (.int .i64 0)) 3)) := by
  obtain ⟨i0, hi, hz0, hz1, hz2⟩ := info_of int_infoS
  rw [run_make (P := Tryd.prog) w 41 3 i0 _ Tryd.underlying41 hi hz0 .i64 .i64 n n (by omega) (Int.le_refl _) (by rw [hz2]; omega) (by omega)]
  rw [hz1]
  have e : madeCells (Value.int .i64 0).cells ((n : Int).toNat * 1) = Array.replicate n (.int .i64 0) := by
    unfold madeCells
    apply Array.ext_getElem?
    intro i
    simp only [Int.toNat_natCast, Nat.mul_one, Array.getElem?_map, Array.getElem?_replicate]
    by_cases h : i < n
    · simp [h, Value.cells, Nat.mod_one]
    · simp [h]
  rw [e]
  simp
theorem tabI_new (n : Nat) (w : World) : TabI (w.alloc (.cells (Array.replicate n (.int .i64 0)) 3)) w.heap.size (List.replicate n 0) := by
  unfold TabI
  rw [heap_alloc_new]
  simp
/-- The numbers of trees by the table: none is 257. -/
def vOf (ms : List Nat) (n : Nat) : Nat := if ms.getD n 0 = 0 then 257 else ms.getD n 0
theorem vOf_zero (n i : Nat) : vOf (List.replicate n 0) i = 257 := by
  unfold vOf
  rw [if_pos]
  rw [List.getD_eq_getElem?_getD, List.getElem?_replicate]
  split <;> rfl
theorem vOf_set {ms : List Nat} {i n : Nat} (hi : i < ms.length) (hn : n ≠ 0) : vOf (ms.set i n) i = n ∧ ∀ j, j ≠ i → vOf (ms.set i n) j = vOf ms j := by
  refine ⟨?_, fun j hj => ?_⟩
  · unfold vOf
    rw [List.getD_eq_getElem?_getD, List.getElem?_set_self hi]
    simp [hn]
  · unfold vOf
    rw [List.getD_eq_getElem?_getD, List.getElem?_set_ne (fun h => hj h.symm), ← List.getD_eq_getElem?_getD]
theorem vOf_at {ms : List Nat} {i x : Nat} (h : ms[i]? = some x) (hx : x ≠ 0) : vOf ms i = x := by
  unfold vOf
  rw [List.getD_eq_getElem?_getD, h]
  simp [hx]
theorem vOf_none {ms : List Nat} {i : Nat} (h : ms[i]? = some 0) : vOf ms i = 257 := by
  unfold vOf
  rw [List.getD_eq_getElem?_getD, h]
  simp
theorem tree_drop {v : Nat → Nat} {row : List SymM} {m : Nat} {x : SymM} (hx : row[m]? = some x) (hk : x.1 = 3) (c : Nat) : treeC v (row.drop m) c = treeC v (row.drop (m + 1)) (c + v x.2.toNat) := by
  obtain ⟨hm, e⟩ := List.getElem?_eq_some_iff.1 hx
  rw [List.drop_eq_getElem_cons hm, e]
  show (if x.1 = 3 then _ else _) = _
  rw [if_pos hk]
theorem tree_stop {v : Nat → Nat} {row : List SymM} {m : Nat} {x : SymM} (hx : row[m]? = some x) (hk : x.1 ≠ 3) (c : Nat) : treeC v (row.drop m) c = 257 := by
  obtain ⟨hm, e⟩ := List.getElem?_eq_some_iff.1 hx
  rw [List.drop_eq_getElem_cons hm, e]
  show (if x.1 = 3 then _ else _) = _
  rw [if_neg hk]
/-- What the loop over the productions holds. -/
structure EmpS (ps : List ProdM) (nn g : Nat) (old : List Nat) (W wr : World) (ms : List Nat) (fl : Bool) (j : Nat) : Prop where
  len : ms.length = nn
  small : ∀ x ∈ ms, x ≤ 256
  step : EzStep ps (vOf old) (vOf ms) j
  flag : (fl = false → ms = old) ∧ (fl = true → ∃ n, n < nn ∧ vOf ms n < vOf old n)
  tab : TabI wr g ms
  kept : Kept W wr
theorem EmpS.keep {ps : List ProdM} {nn g : Nat} {old : List Nat} {W wr wr' : World} {ms : List Nat} {fl : Bool} {j : Nat} (s : EmpS ps nn g old W wr ms fl j) (hk : Kept wr wr') : EmpS ps nn g old W wr' ms fl j := ⟨s.len, s.small, s.step, s.flag, s.tab.keep hk, gtrans s.kept hk⟩
theorem EmpS.same {ps : List ProdM} {nn g : Nat} {old : List Nat} {W wr : World} {ms : List Nat} {fl : Bool} {j : Nat} (s : EmpS ps nn g old W wr ms fl j) {p : ProdM} (hp : ps[j]? = some p) (hv : vOf ms p.1.toNat ≤ treeC (vOf ms) p.2 1) : EmpS ps nn g old W wr ms fl (j + 1) :=
  ⟨s.len, s.small, s.step.put hp (by rw [Nat.min_eq_left hv]) (fun _ _ => rfl), s.flag, s.tab, s.kept⟩
theorem EmpS.put {ps : List ProdM} {nn g : Nat} {old : List Nat} {W wr : World} {ms : List Nat} {fl : Bool} {j : Nat} (s : EmpS ps nn g old W wr ms fl j) (hg : W.heap.size ≤ g) {p : ProdM} (hp : ps[j]? = some p) {l n : Nat} (hl : p.1.toNat = l) (hln : l < nn) (hn0 : n ≠ 0) (hn : n ≤ 256) (ht : treeC (vOf ms) p.2 1 = n) (hv : n < vOf ms l) : EmpS ps nn g old W (wr.setCell ⟨g, l, none⟩ (.int .i64 (n : Int))) (ms.set l n) true (j + 1) := by
  obtain ⟨e1, e2⟩ := vOf_set (ms := ms) (i := l) (n := n) (by rw [s.len]; exact hln) hn0
  have h1 : EzStep ps (vOf old) (vOf (ms.set l n)) (j + 1) := s.step.put hp (by rw [hl, e1, ht, Nat.min_eq_right (Nat.le_of_lt hv)]) (fun i hi => e2 i (by rw [← hl]; exact hi))
  refine ⟨by rw [List.length_set]; exact s.len, fun x hx => ?_, h1, ⟨fun e => (by cases e), fun _ => ⟨l, hln, ?_⟩⟩, s.tab.set, keepB s.kept hg⟩
  · rcases List.mem_or_eq_of_mem_set hx with h | rfl
    · exact s.small x h
    · exact hn
  · rw [e1]
    exact Nat.lt_of_lt_of_le hv (s.step.down l)
def DeI (ps : List ProdM) (nn g : Nat) (W : World) (vf : Value) (wr : World) : Prop := ∃ (ms : List Nat) (fl : Bool), vf = .bool fl ∧ Hid (ms.length = nn) ∧ Hid (∀ x ∈ ms, x ≤ 256) ∧ Hid (EzSound ps (vOf ms)) ∧ Hid (fl = false → EzStep ps (vOf ms) (vOf ms) ps.length) ∧ Hid (TabI wr g ms) ∧ Hid (Kept W wr)
def DeJ (ps : List ProdM) (nn g : Nat) (old : List Nat) (W : World) (vf vi : Value) (wr : World) : Prop := ∃ (j : Nat) (ms : List Nat) (fl : Bool), vf = .bool fl ∧ vi = .int .i64 (j : Int) ∧ j ≤ ps.length ∧ Hid (EmpS ps nn g old W wr ms fl j)
def DeK (v : Nat → Nat) (row : List SymM) (W : World) (vn vk : Value) (wr : World) : Prop := ∃ (m n : Nat), vn = .int .i64 (n : Int) ∧ vk = .int .i64 (m : Int) ∧ m ≤ row.length ∧ (n : Int) ≤ 1 + 256 * (m : Int) ∧ n ≠ 0 ∧ Hid (treeC v row 1 = treeC v (row.drop m) n) ∧ Hid (wr = W)
/-- A table of numbers is answered in new memory. -/
def EmpR (ps : List ProdM) (nn : Nat) (w : World) (e : Ending) (w' : World) : Prop := ∃ (ms : List Nat) (g : Nat), e = .returned (.slice (some ⟨g, 0, none⟩) nn nn) ∧ ms.length = nn ∧ (EzIs ps (vOf ms) ∧ ∀ x ∈ ms, x ≤ 256) ∧ w.heap.size ≤ g ∧ TabI w' g ms ∧ Kept w w'

end Ex
end Go.Proofs.YtooelfjceehmmaaDoor
namespace Go.Proofs.YtooelfjceehmmaaDoor
open Go.RowKit
attribute [local go_sem] Oper.semAt_some
namespace Ex

set_option linter.unusedSimpArgs false in
set_option maxRecDepth 100000 in
set_option maxHeartbeats 8000000 in
theorem dEmpties_is (ps : List ProdM) (x0 x2 : Value) (an ap : Option Addr) (nn cn np cp : Nat) (w : World) (hnn : nn ≤ 128) (hps : ps.length = np) (hp : ProdsAt w (.slice ap np cp) ps) (hok : ∀ p ∈ ps, (0 ≤ p.1 ∧ p.1 < (nn : Int)) ∧ ∀ x ∈ p.2, x.1 = 3 → 0 ≤ x.2 ∧ x.2 < (nn : Int)) :
    Calls Tryd.prog 88 #[.agg #[x0, .slice an nn cn, x2, .slice ap np cp]] w (EmpR ps nn w) := by
  have HK1 : Hid (Kept w (w.alloc (.cells #[x0, .slice an nn cn, x2, .slice ap np cp] 26))) := (Kept.refl w).alloc _ _
  have HB1 := hide1 (SBox.new w x0 (.slice an nn cn) x2 (.slice ap np cp))
  have HP := hide1 hp
  have HPS := hide1 hps
  have HOK := hide1 hok
  have HNN := hide1 hnn
  obtain ⟨_, _, e1, hc, hn⟩ := hp.len
  simp only [Value.slice.injEq] at e1
  obtain ⟨rfl, en, rfl⟩ := e1
  clear en
  rw [hps] at hc hn
  have gn : (nn : Int) ≤ 128 := by omega
  have gp : (np : Int) ≤ 17592186044416 := by omega
  clear hp hps hok
  go_enter Tryd.func88, Tryd.ntmps88
  go_upto_region 1 with fail
  obtain ⟨W, hW⟩ : ∃ W, w.alloc (.cells #[x0, .slice an nn cn, x2, .slice ap np cp] 26) = W := ⟨_, rfl⟩
  rw [hW] at HK1 HB1 ⊢
  clear hW
  obtain ⟨b, hb⟩ : ∃ b, w.heap.size = b := ⟨_, rfl⟩
  rw [hb] at HB1 ⊢
  clear hb
  obtain ⟨s0, s1, s2, s3⟩ := HB1.out.facts
  have hmk := run_tabI nn (by omega) W
  go_upto_region 2 with fail
  clear s0 s1 s2 s3 hmk
  have HK2 : Hid (Kept W (W.alloc (.cells (Array.replicate nn (.int .i64 0)) 3))) := (Kept.refl _).alloc _ _
  have HT2 := hide1 (tabI_new nn W)
  have HWG : Hid (w.heap.size ≤ W.heap.size) := HK1.out.size
  obtain ⟨W2, hW2⟩ : ∃ W2, W.alloc (.cells (Array.replicate nn (.int .i64 0)) 3) = W2 := ⟨_, rfl⟩
  rw [hW2] at HK2 HT2 ⊢
  clear hW2
  obtain ⟨g, hg⟩ : ∃ g, W.heap.size = g := ⟨_, rfl⟩
  rw [hg] at HT2 HWG ⊢
  have HG : Hid (W.heap.size ≤ g) := Nat.le_of_eq hg
  clear hg
  go_wp2_with fail
  go_loopw [4] (DeI ps nn g W) (fun f wr => 2 * sumV (vOf (rdTabI g wr)) nn + flagN f)
  case atStart => exact ⟨List.replicate nn 0, true, rfl, List.length_replicate, fun x hx => (by rw [List.eq_of_mem_replicate hx]; omega), fun n => ⟨by rw [vOf_zero]; omega, fun h => (by rw [vOf_zero] at h; omega)⟩, fun h => (by cases h), HT2, HK2.out⟩
  case round =>
    obtain ⟨ms, fl, rfl, HML, HSM, HSO, HFI, HTr, HKr⟩ := hrel
    cases fl with
    | true =>
      go_wp2_with fail
      go_loopw [4, 5] (DeJ ps nn g ms W) (fun _ i _ => np - (intOf i).toNat)
      case atStart => exact ⟨0, ms, false, rfl, rfl, Nat.zero_le _, ⟨HML.out, HSM.out, EzStep.start ps _, ⟨fun _ => rfl, fun h => (by cases h)⟩, HTr.out, HKr.out⟩⟩
      case round =>
        obtain ⟨j, ns, f2, rfl, rfl, hj, HS⟩ := hrel
        rw [HPS.out] at hj
        obtain ⟨s0, s1, s2, s3⟩ := (HB1.out.keep HS.out.kept).facts
        by_cases hlt : (j : Int) < (np : Int)
        · obtain ⟨p, hp⟩ : ∃ p, ps[j]? = some p := ⟨_, List.getElem?_eq_getElem (by have := HPS.out; omega)⟩
          obtain ⟨cb, o2, cs, ea, hcb, hlen, hcell, v', hcs, hrt⟩ := SliceOf.el (HP.out.keep (gtrans HK1.out HS.out.kept)) hp
          subst ea hcs
          have k0 : wr.cell? ⟨cb, o2 + j * 2, none⟩ = some (.int .i64 p.1) := hcell 0 _ rfl
          have k1 := hcell 1 _ rfl
          have gjc : (j : Int) < (cp : Int) := by omega
          have HOKp := hide1 (HOK.out p (List.mem_of_getElem? hp))
          have HPJ := hide1 hp
          obtain ⟨ar, cr, rfl, hcr, hnr⟩ := hrt.len
          obtain ⟨nr, hnr2⟩ : ∃ nr, p.2.length = nr := ⟨_, rfl⟩
          rw [hnr2] at hrt hcr hnr k1
          have HNR := hide1 hnr2
          have HRT := hide1 hrt
          obtain ⟨l, hl⟩ : ∃ l : Nat, p.1 = (l : Int) := ⟨p.1.toNat, by have := HOKp.out.1.1; omega⟩
          have HLE : Hid (p.1.toNat = l) := by show _ = _; omega
          have gln : (l : Int) < (nn : Int) := by have := HOKp.out.1; omega
          rw [hl] at k0
          clear hp hcell hrt hnr2 hl
          have HPB := hide1 (PBox.new wr (.int .i64 (l : Int)) (.slice ar nr cr))
          have HK4 : Hid (Kept wr (wr.alloc (.cells #[.int .i64 (l : Int), .slice ar nr cr] 40))) := (Kept.refl wr).alloc _ _
          go_upto_region 9 with fail
          clear k0 k1 s0 s1 s2 s3
          obtain ⟨W4, hW4⟩ : ∃ W4, wr.alloc (.cells #[.int .i64 (l : Int), .slice ar nr cr] 40) = W4 := ⟨_, rfl⟩
          rw [hW4] at HPB HK4 ⊢
          clear hW4
          obtain ⟨pb, hpb⟩ : ∃ pb, wr.heap.size = pb := ⟨_, rfl⟩
          rw [hpb] at HPB ⊢
          clear hpb
          obtain ⟨p0, p1⟩ := HPB.out.cells
          have HS4 := hide1 (HS.out.keep HK4.out)
          have HRT4 := hide1 (HRT.out.keep HK4.out)
          have gnr : (nr : Int) ≤ 17592186044416 := by omega
          obtain ⟨yl, hyl⟩ : ∃ yl, ns[l]? = some yl := ⟨_, List.getElem?_eq_getElem (by have := HS4.out.len; omega)⟩
          have cl0 := HS4.out.tab.cell hyl
          have zl0 := HS4.out.tab.free l
          have gyl : (yl : Int) ≤ 256 := by have := HS4.out.small yl (List.mem_of_getElem? hyl); omega
          have HYL := hide1 hyl
          clear hyl
          go_wp2_with fail
          go_loopw [7, 8] (DeK (vOf ns) p.2 W4) (fun _ i _ => nr - (intOf i).toNat)
          case atStart => exact ⟨0, 1, rfl, rfl, Nat.zero_le _, by omega, by omega, rfl, rfl⟩
          case round =>
            obtain ⟨m, n, rfl, rfl, hm, gmn, gn0, HTC, HWM⟩ := hrel
            have hWM := HWM.out.symm
            subst hWM
            rw [HNR.out] at hm
            by_cases hmt : (m : Int) < (nr : Int)
            · obtain ⟨x, hx⟩ : ∃ x, p.2[m]? = some x := ⟨_, List.getElem?_eq_getElem (by have := HNR.out; omega)⟩
              obtain ⟨cr2, or2, cs2, ea2, hcb2, hlen2, hcell2, hcs2⟩ := SliceOf.el HRT4.out hx
              have hcs2 : cs2 = [.int .i64 x.1, .int .i64 x.2] := hcs2
              subst ea2 hcs2
              have k0 : W4.cell? ⟨cr2, or2 + m * 2, none⟩ = some (.int .i64 x.1) := hcell2 0 _ rfl
              have k1 : W4.cell? ⟨cr2, or2 + m * 2 + 1, none⟩ = some (.int .i64 x.2) := hcell2 1 _ rfl
              have gmc : (m : Int) < (cr : Int) := by omega
              have HOX := hide1 (HOKp.out.2 x (List.mem_of_getElem? hx))
              have HXM := hide1 hx
              obtain ⟨kd, sn⟩ := x
              dsimp only at k0 k1
              clear hx hcell2
              by_cases h3 : kd = 3
              · subst h3
                obtain ⟨hn0, hn1⟩ := HOX.out rfl
                obtain ⟨q, rfl⟩ : ∃ q : Nat, sn = (q : Int) := ⟨sn.toNat, by simp only at hn0; omega⟩
                have gqn : (q : Int) < (nn : Int) := by simp only at hn1; omega
                obtain ⟨y, hy⟩ : ∃ y, ns[q]? = some y := ⟨_, List.getElem?_eq_getElem (by have := HS4.out.len; omega)⟩
                have c0 := HS4.out.tab.cell hy
                have gy : (y : Int) ≤ 256 := by have := HS4.out.small y (List.mem_of_getElem? hy); omega
                have HY := hide1 hy
                clear hy hn0 hn1
                by_cases hy0 : y = 0
                · subst hy0
                  rw [show ((0 : Nat) : Int) = 0 from rfl] at c0 gy
                  have HBIG : Hid (257 ≤ treeC (vOf ns) p.2 1) := by
                    show _ ≤ _
                    rw [HTC.out, tree_drop HXM.out rfl, show (((3 : Int), (q : Int)) : SymM).2.toNat = q from Int.toNat_natCast q, vOf_none HY.out]
                    exact tree_big _ _ _ (by omega)
                  have HS5 := hide1 (HS4.out.same HPJ.out (Nat.le_trans ((HS4.out.step.sound HSO.out _).1) HBIG.out))
                  go_wp2_with fail
                  go_roundw
                  case rel => exact ⟨j + 1, ns, f2, rfl, by go_num, by rw [HPS.out]; omega, HS5⟩
                  case measure => simp [intOf]; omega
                · have gy0 : ((y : Int) == 0) = false := by simp; omega
                  have HT2 : Hid (treeC (vOf ns) p.2 1 = treeC (vOf ns) (p.2.drop (m + 1)) (n + y)) := by
                    show _ = _
                    rw [HTC.out, tree_drop HXM.out rfl, show (((3 : Int), (q : Int)) : SymM).2.toNat = q from Int.toNat_natCast q, vOf_at HY.out hy0]
                  clear hy0
                  go_wp2_with fail
                  go_roundw
                  case rel => exact ⟨m + 1, n + y, by go_num, by go_num, by rw [HNR.out]; omega, by omega, by omega, HT2, rfl⟩
                  case measure => simp [intOf]; omega
              · have b3 : (kd != 3) = true := by simpa using h3
                have HBIG : Hid (257 ≤ treeC (vOf ns) p.2 1) := by
                  show _ ≤ _
                  rw [HTC.out, tree_stop HXM.out h3]
                  exact Nat.le_refl _
                have HS5 := hide1 (HS4.out.same HPJ.out (Nat.le_trans ((HS4.out.step.sound HSO.out _).1) HBIG.out))
                clear h3
                go_wp2_with fail
                go_roundw
                case rel => exact ⟨j + 1, ns, f2, rfl, by go_num, by rw [HPS.out]; omega, HS5⟩
                case measure => simp [intOf]; omega
            · have HTN : Hid (treeC (vOf ns) p.2 1 = n) := by
                show _ = _
                rw [HTC.out, List.drop_eq_nil_of_le (by have := HNR.out; omega)]
                rfl
              have HLN : Hid (l < nn) := by show _ < _; omega
              by_cases h256 : (n : Int) ≤ 256
              · by_cases hy0 : yl = 0
                · subst hy0
                  rw [show ((0 : Nat) : Int) = 0 from rfl] at cl0 gyl
                  have HS5 := hide1 (HS4.out.put HG.out HPJ.out HLE.out HLN.out gn0 (by omega) HTN.out (by rw [vOf_none HYL.out]; omega))
                  go_wp2_with fail
                  go_roundw
                  case rel => exact ⟨j + 1, ns.set l n, true, rfl, by go_num, by rw [HPS.out]; omega, HS5⟩
                  case measure => simp [intOf]; omega
                · have gy0 : ((yl : Int) == 0) = false := by simp; omega
                  by_cases hny : (n : Int) < (yl : Int)
                  · have HS5 := hide1 (HS4.out.put HG.out HPJ.out HLE.out HLN.out gn0 (by omega) HTN.out (by rw [vOf_at HYL.out hy0]; omega))
                    clear hy0
                    go_wp2_with fail
                    go_roundw
                    case rel => exact ⟨j + 1, ns.set l n, true, rfl, by go_num, by rw [HPS.out]; omega, HS5⟩
                    case measure => simp [intOf]; omega
                  · have HS5 := hide1 (HS4.out.same HPJ.out (by rw [HLE.out, HTN.out, vOf_at HYL.out hy0]; omega))
                    clear hy0
                    go_wp2_with fail
                    go_roundw
                    case rel => exact ⟨j + 1, ns, f2, rfl, by go_num, by rw [HPS.out]; omega, HS5⟩
                    case measure => simp [intOf]; omega
              · have HS5 := hide1 (HS4.out.same HPJ.out (Nat.le_trans ((HS4.out.step.sound HSO.out _).1) (by rw [HTN.out]; omega)))
                go_wp2_with fail
                go_roundw
                case rel => exact ⟨j + 1, ns, f2, rfl, by go_num, by rw [HPS.out]; omega, HS5⟩
                case measure => simp [intOf]; omega
        · have hjn : j = ps.length := by have := HPS.out; omega
          have HS2 : Hid (EmpS ps nn g ms W wr ns f2 ps.length) := hjn ▸ HS
          go_wp2_with fail
          go_roundw
          case rel =>
            refine ⟨ns, f2, rfl, HS2.out.len, HS2.out.small, HS2.out.step.sound HSO.out, fun h => ?_, HS2.out.tab, HS2.out.kept⟩
            have e := HS2.out.flag.1 h
            have h2 := HS2.out.step
            rw [e] at h2 ⊢
            exact h2
          case measure =>
            rw [HS2.out.tab.rd, HTr.out.rd]
            cases f2 with
            | false => rw [HS2.out.flag.1 rfl]; simp [flagN]
            | true =>
              obtain ⟨i, hi, hv⟩ := HS2.out.flag.2 rfl
              have := sumV_lt HS2.out.step.down hi hv
              simp [flagN]
              omega
    | false =>
      have HFN := hide1 (EzStep.done (HFI.out rfl) HSO.out)
      go_wp2_with fail
      go_ret
      exact ⟨ms, g, rfl, HML.out, ⟨HFN.out, HSM.out⟩, HWG.out, HTr.out, gtrans HK1.out HKr.out⟩

end Ex
end Go.Proofs.YtooelfjceehmmaaDoor
