import Derived.Test.YtooelfjceehmmaaDoorMSpYs
import Derived.Test.YtooelfjceehmmaaDoorMSpYj
namespace Go.Proofs.YtooelfjceehmmaaDoor
open Go.RowKit
attribute [local go_sem] Oper.semAt_some
namespace Ex

def rdOne : Option Value → Option Value → Nat
  | some (.bool true), some (.string s) => valY (strI s)
  | _, _ => bigY
/-- How much there is to be made better, read off the world. -/
def rdSen (d : Nat) (w : World) : Nat := sumV (fun n => rdOne (w.cell? ⟨d, n * 2, none⟩) (w.cell? ⟨d, n * 2 + 1, none⟩)) 128
theorem SeB.rd {w : World} {d : Nat} {L : Nat → Option (List Int)} (h : SeB w d L) (hL : OkY L) : rdSen d w = sumV (fun n => valO (L n)) 128 := by
  unfold rdSen
  refine sumV_congr (fun n hn => ?_)
  obtain ⟨h0, h1⟩ := h.cells hn
  rw [h0, h1]
  cases hLn : L n with
  | none => rfl
  | some r =>
    show valY (strI (strOf r)) = valY r
    rw [strI_strOf r (hL n r hLn).1]
theorem eqL_not {L L' : Nat → Option (List Int)} (h : eqL L L' = false) : ∃ i, i < 128 ∧ L i ≠ L' i := by
  obtain ⟨i, hi, hn⟩ := List.all_eq_false.1 h
  refine ⟨i, List.mem_range.1 hi, fun e => hn ?_⟩
  rw [e]
  unfold eqO
  simp
theorem eqL_all {L L' : Nat → Option (List Int)} (hL : OkY L) (hL' : OkY L') (h : eqL L L' = true) (i : Nat) (hi : i < 128) : L i = L' i :=
  eqO_eq (fun r hr => (hL i r hr).1) (fun r hr => (hL' i r hr).1) (List.all_eq_true.1 h i (List.mem_range.2 hi))
theorem sen_two (w : World) (L : Nat → Option (List Int)) : SeB ((w.alloc (.cells (senL L).toArray 132)).alloc (.cells Tryd.zeroCells132 132)) w.heap.size L ∧ SeB ((w.alloc (.cells (senL L).toArray 132)).alloc (.cells Tryd.zeroCells132 132)) (w.heap.size + 1) (fun _ => none) ∧ Kept w ((w.alloc (.cells (senL L).toArray 132)).alloc (.cells Tryd.zeroCells132 132)) := by
  refine ⟨(Blk.new w _ _).keep ((Kept.refl _).alloc _ _), ?_, ((Kept.refl w).alloc _ _).alloc _ _⟩
  have h := sen_zero (w.alloc (.cells (senL L).toArray 132))
  rw [World.size_alloc] at h
  exact h
def LsnI (R : (Nat → Option (List Int)) → Prop) (w : World) (wr : World) : Prop := ∃ F, Hid (R F) ∧ Hid (SeB wr w.heap.size F) ∧ Hid (SeB wr (w.heap.size + 1) fun _ => none) ∧ Hid (Kept w wr)
def LsnR (R Fin : (Nat → Option (List Int)) → Prop) (w : World) (e : Ending) (w' : World) : Prop := ∃ F, R F ∧ Fin F ∧ e = .returned (.agg (senL F).toArray) ∧ Kept w w'
set_option linter.unusedSimpArgs false in
set_option maxRecDepth 100000 in
set_option maxHeartbeats 4000000 in
theorem leastSen_is (f : Nat) (bs : Array Value) (F0 : Nat → Option (List Int)) (R Fin : (Nat → Option (List Int)) → Prop) (w : World) (h0 : R F0) (hR : ∀ F, R F → OkY F) (ef : ∀ args w, (callFunc f args).run Tryd.prog w = .ok (.enter f args) w)
    (hf : ∀ F wr, R F → SeB wr w.heap.size F → Kept w wr → Calls Tryd.prog f (#[.pointer (some ⟨w.heap.size, 0, none⟩)] ++ bs) wr fun e w' => ∃ F', R F' ∧ BeY F' F ∧ (eqL F' F = true → Fin F') ∧ e = .returned (.bool (!eqL F' F)) ∧ SeB w' w.heap.size F' ∧ KeptBut w.heap.size wr w') :
    Calls Tryd.prog 90 #[.agg (senL F0).toArray, .func (.func f) #[] bs] w (LsnR R Fin w) := by
  have H0 := hide1 h0
  have HF := hide1 hf
  have HR := hide1 hR
  obtain ⟨h1, h2, h3⟩ := sen_two w F0
  have HS1 := hide1 h1
  have HS2 := hide1 h2
  have HK := hide1 h3
  clear h0 hf h1 h2 h3 hR
  go_enter Tryd.func90, Tryd.ntmps90
  go_upto_region 1 with fail
  obtain ⟨W, hW⟩ : ∃ W, (w.alloc (.cells (senL F0).toArray 132)).alloc (.cells Tryd.zeroCells132 132) = W := ⟨_, rfl⟩
  rw [hW] at HS1 HS2 HK ⊢
  clear hW
  go_loopw [] (LsnI R w) (fun wr => rdSen w.heap.size wr)
  case atStart => exact ⟨F0, H0, HS1, HS2, HK⟩
  case round =>
    obtain ⟨F, HA, HSA, HSZ, HKr⟩ := hrel
    have HC := hide1 (HF.out F wr HA.out HSA.out HKr.out)
    have hef := ef
    go_wp2_with fail
    refine HC.out.mono ?_
    rintro e w6 ⟨F', hr6, hu6, hf6, rfl, hs6, hk6⟩
    have HR6 := hide1 hr6
    have HU6 := hide1 hu6
    have HF6 := hide1 hf6
    have HS6 := hide1 hs6
    have HZ6 := hide1 (HSZ.out.but hk6 (by omega))
    have HKK := hide1 (KeptBut.up HKr.out (Nat.le_refl _) hk6)
    clear hr6 hu6 hf6 hs6 hk6
    cases hne : eqL F' F with
    | true =>
      have HFA := hide1 (HF6.out hne)
      clear hne
      go_wp2_with (first
        | (refine wpList_load_row rfl 132 _ rfl w.heap.size rfl 132 (senL F').toArray (0, 0) _ (by exact HS6.out) Tryd.underlying132 rfl (sen_size F') ?_)
        | (refine wpList_store_row rfl 132 _ _ rfl (w.heap.size + 1) (senL F').toArray rfl rfl 132 (senL fun _ => none).toArray (by exact HZ6.out) (sen_size F') (sen_sizes _ _) (senL_all F') ?_))
      refine bodyPost_ret (results_cell_row rfl _ _ (w.heap.size + 1) 132 (senL F').toArray (0, 0) _ rfl (setRow_heap _ _ _ _ _ _ HZ6.out) Tryd.underlying132 rfl (sen_size F')) rfl ?_
      exact ⟨F', HR6.out, HFA.out, rfl, KeptBut.up HKK.out (by omega) (setRow_butS _ (w.heap.size + 1) _)⟩
    | false =>
      have HNE := hide1 hne
      clear hne
      go_wp2_with fail
      go_roundw
      case rel => exact ⟨F', HR6, HS6, HZ6, HKK⟩
      case measure =>
        have o1 := HR.out _ HR6.out
        have o2 := HR.out _ HA.out
        rw [HS6.out.rd o1, HSA.out.rd o2]
        obtain ⟨i, hi, hn⟩ := eqL_not HNE.out
        have hv := val_le HU6.out (fun n r hr => (o2 n r hr).1) (fun n r hr => (o1 n r hr).1) (fun n r hr => (o1 n r hr).2)
        exact sumV_lt (fun n => (hv n).1) hi ((hv i).2 hn)
/-- The best sentences of all names. -/
def ShR (nl : Nat) (ps : List ProdM) (w : World) (e : Ending) (w' : World) : Prop := ∃ L, e = .returned (.agg (senL L).toArray) ∧ OkY L ∧ YIs nl ps L ∧ Kept w w'
theorem sh_start (w : World) (x0 x1 x2 x3 : Value) : SBox ((w.alloc (.cells #[x0, x1, x2, x3] 26)).alloc (.cells Tryd.zeroCells132 132)) w.heap.size x0 x1 x2 x3 ∧ SeB ((w.alloc (.cells #[x0, x1, x2, x3] 26)).alloc (.cells Tryd.zeroCells132 132)) (w.heap.size + 1) (fun _ => none) ∧ Kept w ((w.alloc (.cells #[x0, x1, x2, x3] 26)).alloc (.cells Tryd.zeroCells132 132)) := by
  refine ⟨(SBox.new w x0 x1 x2 x3).keep ((Kept.refl _).alloc _ _), ?_, ((Kept.refl w).alloc _ _).alloc _ _⟩
  have h := sen_zero (w.alloc (.cells #[x0, x1, x2, x3] 26))
  rw [World.size_alloc] at h
  exact h
theorem built_sen : (Tryd.prog.built 132 []).isSome = true ∧ (Tryd.prog.built 132 []).getD #[] = (senL fun _ => none).toArray := ⟨by kernel_rfl, by kernel_rfl⟩
set_option linter.unusedSimpArgs false in
set_option maxRecDepth 100000 in
set_option maxHeartbeats 4000000 in
theorem shortest_is (nl : Nat) (ps : List ProdM) (al : Option Addr) (cl : Nat) (x1 : Value) (st : Int) (ap : Option Addr) (np cp : Nat) (w : World) (hnl : nl < 128) (hps : ps.length = np) (hp : ProdsAt w (.slice ap np cp) ps) (hok : ∀ p ∈ ps, ProdGood p) :
    Calls Tryd.prog 80 #[.agg #[.slice al nl cl, x1, .int .i64 st, .slice ap np cp]] w (ShR nl ps w) := by
  obtain ⟨h1, h2, h3⟩ := sh_start w (.slice al nl cl) x1 (.int .i64 st) (.slice ap np cp)
  have HB1 := hide1 h1
  have HB2 := hide1 h2
  have HKW := hide1 h3
  have HP := hide1 hp
  have HPS := hide1 hps
  have HOK := hide1 hok
  have HNL := hide1 hnl
  clear hp hps hok hnl h1 h2 h3
  go_enter Tryd.func80, Tryd.ntmps80
  go_upto_region 1 with fail
  obtain ⟨W2, hW2⟩ : ∃ W2, (w.alloc (.cells #[.slice al nl cl, x1, .int .i64 st, .slice ap np cp] 26)).alloc (.cells Tryd.zeroCells132 132) = W2 := ⟨_, rfl⟩
  rw [hW2] at HB1 HB2 HKW ⊢
  clear hW2
  obtain ⟨b, hb⟩ : ∃ b, w.heap.size = b := ⟨_, rfl⟩
  rw [hb] at HB1 HB2 ⊢
  have HB := hide1 hb
  clear hb
  have HC : Hid (Calls Tryd.prog 90 #[.agg (senL fun _ => none).toArray, .func (.func 91) #[] #[.pointer (some ⟨b, 0, none⟩)]] W2 (LsnR (fun L => (OkY L ∧ ∀ n, 128 ≤ n → L n = none) ∧ SndY nl ps L) (fun L => YStep nl ps L L ps.length) W2)) :=
    leastSen_is 91 #[.pointer (some ⟨b, 0, none⟩)] (fun _ => none) _ _ W2 ⟨⟨fun n r hr => by simp at hr, fun _ _ => rfl⟩, fun n r hr => by simp at hr⟩ (fun F h => h.1.1) (enters_of Tryd.func91 (by kernel_rfl) rfl)
      (fun L wr hR hS hk => (yStep_is W2.heap.size b nl L ps al cl x1 st ap np cp W2 wr HNL.out hR.1.1 HPS.out hS (HB1.out.keep hk) (HP.out.keep HKW.out) hk (Nat.le_refl _) (Nat.ne_of_lt HB1.out.lt) HOK.out).mono (by
        rintro e w' ⟨L', hm, hv', he, hs, hk'⟩
        refine ⟨L', ⟨⟨hv'.1, fun n hn => (hv'.2 n hn).trans (hR.1.2 n hn)⟩, hm.sound hR.2⟩, hm.down, fun hq => ?_, he, hs, hk'⟩
        have e2 : L' = L := funext (fun n => (by
          by_cases hn : n < 128
          · exact eqL_all hv'.1 hR.1.1 hq n hn
          · exact hv'.2 n (by omega)))
        rw [e2] at hm ⊢
        exact hm))
  go_wp2_with (first
    | (refine wpList_build rfl 132 #[] rfl built_sen.1 ?_; rw [show (Tryd.prog.built 132 ((#[] : Array (Nat × Operand)).map _).toList).getD #[] = (senL fun _ => none).toArray from built_sen.2])
    | (go_at_call 90; refine HC.out.mono ?_; rintro e w6 ⟨L, hr6, hf6, rfl, hk6⟩; have HR6 := hide1 hr6; have HF6 := hide1 hf6; have HK6 := hide1 hk6; have HZ6 := hide1 (HB2.out.keep hk6); clear hr6 hf6 hk6)
    | (refine wpList_store_row rfl 132 _ _ rfl (b + 1) (senL L).toArray rfl rfl 132 (senL fun _ => none).toArray (by exact HZ6.out) (sen_size L) (sen_sizes _ _) (senL_all L) ?_))
  refine bodyPost_ret (results_cell_row rfl _ _ (b + 1) 132 (senL L).toArray (0, 0) _ rfl (setRow_heap _ _ _ _ _ _ HZ6.out) Tryd.underlying132 rfl (sen_size L)) rfl ?_
  exact ⟨L, rfl, HR6.out.1.1, HF6.out.done HR6.out.2, KeptBut.up (gtrans HKW.out HK6.out) (by rw [HB.out]; omega) (setRow_butS _ (b + 1) _)⟩

end Ex
end Go.Proofs.YtooelfjceehmmaaDoor
namespace Go.Proofs.YtooelfjceehmmaaDoor
open Go.RowKit
attribute [local go_sem] Oper.semAt_some
namespace Ex

theorem idx_sen (l : ByteArray) (j : Nat) (hj : j < l.size) : ∃ x, (strI l)[j]? = some x ∧ ∀ (k : IntKind) (w : World), (Instr.index 9 (.string l) (.int k (j : Int))).run Tryd.prog w = .ok (.int .u8 x) w := by
  refine ⟨((l[j]'hj).toNat : Int), ?_, fun k w => ?_⟩
  · unfold strI
    rw [List.getElem?_map, Array.getElem?_toList, show l.data[j]? = some (l[j]'hj) from Array.getElem?_eq_getElem hj]
    rfl
  · rw [run_index_string w 9 l k _ Tryd.underlying9, dif_pos ⟨by omega, by omega⟩]
    simp only [Int.toNat_natCast]
theorem run_intsS (n : Nat) (hn : n ≤ 300000) (w : World) : (Instr.makeSlice 41 (.int .i64 (n : Int)) (.int .i64 (n : Int))).run Tryd.prog w = .ok (.slice (some ⟨w.heap.size, 0, none⟩) n n) (w.alloc (.cells (Array.replicate n (.int .i64 0)) 3)) := by
  obtain ⟨i0, hi, hz0, hz1, hz2⟩ := info_of sint_info
  rw [run_make (P := Tryd.prog) w 41 3 i0 _ Tryd.underlying41 hi hz0 .i64 .i64 n n (by omega) (Int.le_refl _) (by rw [hz2]; omega) (by omega)]
  rw [hz1]
  have e : madeCells (Value.int .i64 0).cells ((n : Int).toNat * 1) = Array.replicate n (.int .i64 0) := by
    unfold madeCells
    apply Array.ext_getElem?
    intro i
    simp only [Int.toNat_natCast, Nat.mul_one, Array.getElem?_map, Array.getElem?_replicate]
    by_cases h : i < n
    · simp [h, Value.cells, Nat.mod_one]
    · simp [h]
  rw [e]
  simp
/-- The first j numbers of a list, and zeros. -/
def intsTo (zs : List Int) (j : Nat) : List Value := flatS (zs.take j) ++ List.replicate (zs.length - j) (.int .i64 0)
theorem intsTo_at {zs : List Int} {j : Nat} (h : j < zs.length) : (intsTo zs j)[j]? = some (.int .i64 0) := by
  unfold intsTo
  obtain ⟨m, hm⟩ : ∃ m, zs.length - j = m + 1 := ⟨zs.length - j - 1, by omega⟩
  have hl : (flatS (zs.take j)).length = j := by unfold flatS; rw [List.length_map, List.length_take]; omega
  rw [hm, List.getElem?_append_right (by omega), hl, Nat.sub_self, List.replicate_succ]
  rfl
theorem intsTo_set {zs : List Int} {j : Nat} {z : Int} (h : zs[j]? = some z) : (intsTo zs j).set j (.int .i64 z) = intsTo zs (j + 1) := by
  obtain ⟨hj, e⟩ := List.getElem?_eq_some_iff.1 h
  unfold intsTo
  obtain ⟨m, hm⟩ : ∃ m, zs.length - j = m + 1 := ⟨zs.length - j - 1, by omega⟩
  have hl : (flatS (zs.take j)).length = j := by unfold flatS; rw [List.length_map, List.length_take]; omega
  rw [hm, List.set_append_right _ _ (by omega), hl, Nat.sub_self, List.replicate_succ, show zs.length - (j + 1) = m by omega, List.take_succ_eq_append_getElem hj, e]
  unfold flatS
  rw [List.map_append]
  simp
def SlI (zs : List Int) (g b : Nat) (k : Bool) (W : World) (vi : Value) (wr : World) : Prop := ∃ j : Nat, vi = .int .i64 (j : Int) ∧ j ≤ zs.length ∧ Hid (Blk wr g (intsTo zs j) 3) ∧ Hid (wr.heap[b]? = some (.cells #[.bool k, .string (strOf zs)] 130 (0, 0))) ∧ Hid (KeptBut g W wr)
set_option linter.unusedSimpArgs false in
set_option maxRecDepth 100000 in
set_option maxHeartbeats 4000000 in
/-- A sentence as a list. -/
theorem snList_is (k : Bool) (zs : List Int) (n : Nat) (hn : zs.length = n) (hb : ∀ z ∈ zs, IsB z) (hl : n ≤ 4096) (w : World) :
    Calls Tryd.prog 81 #[.agg #[.bool k, .string (strOf zs)]] w fun e w' => (∃ v, e = .returned v ∧ IntsO w' w.heap.size v zs) ∧ Kept w w' := by
  have hsz := strOf_size zs
  rw [hn] at hsz
  have HN := hide1 hn
  have HSI := hide1 (strI_strOf zs hb)
  have HBY := hide1 hb
  have HB0 : Hid ((w.alloc (.cells #[.bool k, .string (strOf zs)] 130)).heap[w.heap.size]? = some (.cells #[.bool k, .string (strOf zs)] 130 (0, 0))) := heap_alloc_new w _
  have HK : Hid (Kept w (w.alloc (.cells #[.bool k, .string (strOf zs)] 130))) := (Kept.refl w).alloc _ _
  obtain ⟨s, hs⟩ : ∃ s, strOf zs = s := ⟨_, rfl⟩
  rw [hs] at hsz HSI HB0 HK ⊢
  have HS := hide1 hs
  have HSZ := hide1 hsz
  have gn : (n : Int) ≤ 4096 := by omega
  clear hs hn hb
  go_enter Tryd.func81, Tryd.ntmps81
  go_upto_region 1 with fail
  obtain ⟨W1, hW1⟩ : ∃ W1, w.alloc (.cells #[.bool k, .string s] 130) = W1 := ⟨_, rfl⟩
  rw [hW1] at HB0 HK ⊢
  clear hW1
  obtain ⟨b, hbb⟩ : ∃ b, w.heap.size = b := ⟨_, rfl⟩
  rw [hbb] at HB0 ⊢
  have HWB := hide1 hbb
  clear hbb
  have c1 : W1.cell? ⟨b, 1, none⟩ = some (.string s) := by simp only [World.cell?, HB0.out]; rfl
  have hmk := run_intsS n (by omega) W1
  go_upto_region 2 with fail
  clear c1 hmk
  have HK2 : Hid (Kept W1 (W1.alloc (.cells (Array.replicate n (.int .i64 0)) 3))) := (Kept.refl _).alloc _ _
  have HG2 : Hid (Blk (W1.alloc (.cells (Array.replicate n (.int .i64 0)) 3)) W1.heap.size (intsTo zs 0) 3) := by
    show Blk _ _ _ _
    unfold Blk
    rw [heap_alloc_new]
    simp [intsTo, flatS, HN.out]
  have HBG : Hid (b < W1.heap.size) := (Array.getElem?_eq_some_iff.1 HB0.out).1
  have HWG : Hid (w.heap.size ≤ W1.heap.size) := HK.out.size
  obtain ⟨W, hW⟩ : ∃ W, W1.alloc (.cells (Array.replicate n (.int .i64 0)) 3) = W := ⟨_, rfl⟩
  rw [hW] at HK2 HG2 ⊢
  clear hW
  obtain ⟨g, hg⟩ : ∃ g, W1.heap.size = g := ⟨_, rfl⟩
  rw [hg] at HG2 HBG HWG ⊢
  clear hg
  have HB2 : Hid (W.heap[b]? = some (.cells #[.bool k, .string (strOf zs)] 130 (0, 0))) := by
    show _ = _
    rw [HS.out]
    exact (HK2.out.2.2.2.2 b (Array.getElem?_eq_some_iff.1 HB0.out).1).trans HB0.out
  have HKW := hide1 (gtrans HK.out HK2.out)
  go_wp2_with fail
  go_loopw [11] (SlI zs g b k W) (fun i _ => n - (intOf i).toNat)
  case atStart => exact ⟨0, rfl, Nat.zero_le _, HG2, HB2, but_refl g W⟩
  case round =>
    obtain ⟨j, rfl, hj, HGr, HBr, HKr⟩ := hrel
    rw [HN.out] at hj
    have HKw : Hid (Kept w wr) := KeptBut.up HKW.out HWG.out HKr.out
    by_cases hlt : (j : Int) < (n : Int)
    · obtain ⟨z, hz, hix⟩ := idx_sen s j (by have := HSZ.out; omega)
      rw [HSI.out] at hz
      have hzb := HBY.out z (List.mem_of_getElem? hz)
      have HZ := hide1 hz
      have hw3 : IntKind.i64.wrap z = z := by unfold IsB at hzb; rw [IntKind.wrap_i64]; omega
      have hix := hix .i64
      have c1 : wr.cell? ⟨b, 1, none⟩ = some (.string s) := by
        have h := HBr.out
        rw [HS.out] at h
        simp only [World.cell?, h]
        rfl
      have a0 := HGr.out.cell (intsTo_at (by rw [HN.out]; omega))
      have z0 := HGr.out.free j
      clear hz hzb
      go_upto_region 6 with fail
      clear c1 a0 z0 hix hw3
      have HG6 : Hid (Blk (wr.setCell ⟨g, j, none⟩ (.int .i64 z)) g (intsTo zs (j + 1)) 3) := by
        have h := HGr.out.set j (.int .i64 z)
        rw [intsTo_set HZ.out] at h
        exact h
      have HBU : Hid (KeptBut g wr (wr.setCell ⟨g, j, none⟩ (.int .i64 z))) := but_set (but_refl g wr) _ _
      have HB6 : Hid ((wr.setCell ⟨g, j, none⟩ (.int .i64 z)).heap[b]? = some (.cells #[.bool k, .string (strOf zs)] 130 (0, 0))) := (heap_set_ne (by have := HBG.out; omega)).trans HBr.out
      obtain ⟨W6, hW6⟩ : ∃ W6, wr.setCell ⟨g, j, none⟩ (.int .i64 z) = W6 := ⟨_, rfl⟩
      rw [hW6] at HG6 HBU HB6 ⊢
      clear hW6
      go_wp2_with fail
      go_roundw
      case rel => exact ⟨j + 1, by go_num, by rw [HN.out]; omega, HG6, HB6, HKr.out.trans HBU.out⟩
      case measure => simp [intOf]; omega
    · have hjn : j = n := by omega
      subst hjn
      go_wp2_with fail
      go_ret
      refine ⟨⟨_, rfl, ?_⟩, HKw.out⟩
      have h := HGr.out
      have hfl : (flatS zs).length = j := by unfold flatS; rw [List.length_map, HN.out]
      have e : intsTo zs j = flatS zs := by
        unfold intsTo
        rw [List.take_of_length_le (by rw [HN.out]; exact Nat.le_refl _), HN.out, Nat.sub_self, List.replicate_zero, List.append_nil]
      rw [e] at h
      refine ⟨by rw [hfl, HN.out, Nat.mul_one], .inr ⟨g, j, _, ?_, HWG.out, h, by rw [HN.out]; exact Nat.le_refl _, by unfold maxLen; omega, ?_, ?_⟩⟩
      · rw [HN.out]
        rfl
      · rw [List.size_toArray, hfl, Nat.mul_one]
      · show (flatS zs).take _ = _
        rw [List.take_of_length_le (by rw [hfl, HN.out, Nat.mul_one]; exact Nat.le_refl _)]

end Ex
end Go.Proofs.YtooelfjceehmmaaDoor
