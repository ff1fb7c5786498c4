import Derived.Test.YtooelfjceehmmaaDoorMSpCs
namespace Go.Proofs.YtooelfjceehmmaaDoor
open Go.RowKit
attribute [local go_sem] Oper.semAt_some
namespace Ex

/-- The first production with a number that stands for nothing. -/
def placesF {k : Nat} (lex : List (LexM k)) (n2 : Nat) : Nat → List ProdM → Int × Int
  | _, [] => (0, 0)
  | i, p :: ps => if 0 ≤ p.1 ∧ p.1 < (n2 : Int) then (if (wrongP lex n2 p.2).2 = 0 then placesF lex n2 (i + 1) ps else ((wrongP lex n2 p.2).2, (i : Int))) else (70, (i : Int))
def placesP {k : Nat} (lex : List (LexM k)) (n2 : Nat) (st : Int) (ps : List ProdM) : Int × Int := if 0 ≤ st ∧ st < (n2 : Int) then placesF lex n2 0 ps else (70, -1)
def PlacesQ {k : Nat} (lex : List (LexM k)) (n2 : Nat) (st : Int) (ps : List ProdM) (x : Int × Int) : Prop := x = placesP lex n2 st ps
def PlI {k : Nat} (lex : List (LexM k)) (n2 : Nat) (ps : List ProdM) (X : Int × Int) (W : World) (vi : Value) (wr : World) : Prop := ∃ j : Nat, vi = .int .i64 (j : Int) ∧ j ≤ ps.length ∧ Hid (X = placesF lex n2 j (ps.drop j)) ∧ Hid (Kept W wr)
theorem in_b {x : Int} {n : Nat} (b : Bool) (h : (0 ≤ x ∧ x < (n : Int)) ↔ b = true) : (decide (0 ≤ x) && decide (x < (n : Int))) = b := by
  cases b with
  | true => have := h.2 rfl; simp [this.1, this.2]
  | false =>
    have hn : ¬ (0 ≤ x ∧ x < (n : Int)) := fun e => by simpa using h.1 e
    rw [Bool.and_eq_false_iff, decide_eq_false_iff_not, decide_eq_false_iff_not]
    omega
set_option linter.unusedSimpArgs false in
set_option maxRecDepth 100000 in
set_option maxHeartbeats 8000000 in
theorem checkPlaces_is (k : Nat) (lex : List (LexM k)) (ps : List ProdM) (al an ap : Option Addr) (nl cl nn cn np cp : Nat) (st : Int) (w : World) (hnn : nn ≤ 17592186044416) (hlex : lex.length = nl) (hps : ps.length = np) (hl : LexAt w k (.slice al nl cl) lex) (hp : ProdsAt w (.slice ap np cp) ps) :
    Calls Tryd.prog 51 #[.agg #[.slice al nl cl, .slice an nn cn, .int .i64 st, .slice ap np cp]] w (FaultR (PlacesQ lex nn st ps) w) := by
  obtain ⟨h1, h2, h3⟩ := chk_start w (.slice al nl cl) (.slice an nn cn) (.int .i64 st) (.slice ap np cp)
  have HB := hide1 h1
  have HF := hide1 h2
  have HK := hide1 h3
  have HP := hide1 hp
  have HPS := hide1 hps
  have HL := hide1 hl
  have HLEN := hide1 hlex
  obtain ⟨_, _, e1, hc, hn⟩ := hp.len
  simp only [Value.slice.injEq] at e1
  obtain ⟨rfl, en, rfl⟩ := e1
  clear en
  rw [hps] at hc hn
  have gn : (nn : Int) ≤ 17592186044416 := by omega
  have gp : (np : Int) ≤ 17592186044416 := by omega
  clear h1 h2 h3 hp hps hl hlex
  go_enter Tryd.func51, Tryd.ntmps51
  go_upto_region 1 with fail
  obtain ⟨W, hW⟩ : ∃ W, (w.alloc (.cells #[.slice al nl cl, .slice an nn cn, .int .i64 st, .slice ap np cp] 26)).alloc (.cells #[.int .i64 0, .int .i64 0, .string ⟨#[]⟩] 44) = W := ⟨_, rfl⟩
  rw [hW] at HB HF HK ⊢
  clear hW
  obtain ⟨b, hb⟩ : ∃ b, w.heap.size = b := ⟨_, rfl⟩
  rw [hb] at HB HF ⊢
  have HSZ := hide1 hb
  clear hb
  obtain ⟨s0, s1, s2, s3⟩ := HB.out.facts
  by_cases hst : 0 ≤ st ∧ st < (nn : Int)
  · have HW1 := hide1 (in_b true (by simpa using hst))
    have HX : Hid (placesP lex nn st ps = placesF lex nn 0 ps) := by show _ = _; unfold placesP; rw [if_pos hst]
    clear hst
    go_upto_region 3 with (go_at_call 56; refine (within_at st (nn : Int) true HW1.out _).mono ?_; rintro e w4 ⟨rfl, hw4⟩; replace hw4 := hw4.symm; subst hw4)
    go_wp2_with fail
    clear s0 s1 s2 s3
    go_loopw [18] (PlI lex nn ps (placesP lex nn st ps) W) (fun i _ => np - (intOf i).toNat)
    case atStart => exact ⟨0, rfl, Nat.zero_le _, HX, Kept.refl W⟩
    case round =>
      obtain ⟨j, rfl, hj, HJ, HKr⟩ := hrel
      rw [HPS.out] at hj
      by_cases hlt : (j : Int) < (np : Int)
      · obtain ⟨p, hp⟩ : ∃ p, ps[j]? = some p := ⟨_, List.getElem?_eq_getElem (by have := HPS.out; omega)⟩
        have HKw := hide1 (gtrans HK.out HKr.out)
        obtain ⟨cb, o2, cs, ea, hcb, hlen, hcell, v', hcs, hrt⟩ := SliceOf.el (HP.out.keep HKw.out) hp
        subst ea hcs
        have k0 : wr.cell? ⟨cb, o2 + j * 2, none⟩ = some (.int .i64 p.1) := hcell 0 _ rfl
        have k1 := hcell 1 _ rfl
        have gjc : (j : Int) < (cp : Int) := by omega
        have HD : Hid (ps.drop j = p :: ps.drop (j + 1)) := by
          obtain ⟨hj2, e⟩ := List.getElem?_eq_some_iff.1 hp
          show _ = _
          rw [List.drop_eq_getElem_cons hj2, e]
        obtain ⟨ar, cr, rfl, hcr, hnr⟩ := hrt.len
        obtain ⟨nr, hnr2⟩ : ∃ nr, p.2.length = nr := ⟨_, rfl⟩
        rw [hnr2] at hrt hcr hnr k1
        have HNR := hide1 hnr2
        have HRT := hide1 hrt
        obtain ⟨l, row⟩ := p
        dsimp only at k0 HNR HRT
        clear hp hcell hrt hnr2
        have HPB := hide1 (PBox.new wr (.int .i64 l) (.slice ar nr cr))
        have HK4 : Hid (Kept wr (wr.alloc (.cells #[.int .i64 l, .slice ar nr cr] 40))) := (Kept.refl wr).alloc _ _
        go_upto_region 6 with fail
        clear k0 k1
        obtain ⟨W4, hW4⟩ : ∃ W4, wr.alloc (.cells #[.int .i64 l, .slice ar nr cr] 40) = W4 := ⟨_, rfl⟩
        rw [hW4] at HPB HK4 ⊢
        clear hW4
        obtain ⟨pb, hpb⟩ : ∃ pb, wr.heap.size = pb := ⟨_, rfl⟩
        rw [hpb] at HPB ⊢
        clear hpb
        obtain ⟨p0, p1⟩ := HPB.out.cells
        have HK4w := hide1 (gtrans HKr.out HK4.out)
        obtain ⟨s0, s1, s2, s3⟩ := (HB.out.keep HK4w.out).facts
        have HF4 := hide1 (HF.out.keep HK4w.out)
        by_cases hin : 0 ≤ l ∧ l < (nn : Int)
        · have HW2 := hide1 (in_b true (by simpa using hin))
          obtain ⟨er, her⟩ : ∃ er, (wrongP lex nn row).2 = er := ⟨_, rfl⟩
          have HER := hide1 her
          have HJ2 : Hid (placesP lex nn st ps = if er = 0 then placesF lex nn (j + 1) (ps.drop (j + 1)) else (er, (j : Int))) := by
            show _ = _
            rw [HJ.out, HD.out]
            show (if 0 ≤ l ∧ l < (nn : Int) then (if (wrongP lex nn row).2 = 0 then _ else ((wrongP lex nn row).2, _)) else _) = _
            rw [if_pos hin, her]
          clear hin her
          go_upto_region 8 with (go_at_call 56; refine (within_at l (nn : Int) true HW2.out _).mono ?_; rintro e w5 ⟨rfl, hw5⟩; replace hw5 := hw5.symm; subst hw5)
          by_cases h0 : er = 0
          · have b0 : (er != 0) = false := by simp [h0]
            have HJ3 : Hid (placesP lex nn st ps = placesF lex nn (j + 1) (ps.drop (j + 1))) := by show _ = _; rw [HJ2.out, if_pos h0]
            clear h0
            go_wp2_with (go_at_call 55; refine (firstWrong_is k al an ar nl cl nn cn nr cr lex row HLEN.out HNR.out (by omega) _ st _ (HL.out.keep (gtrans HKw.out HK4.out)) (HRT.out.keep HK4.out)).mono ?_; rintro e w6 ⟨rfl, hk6⟩; rw [HER.out]; have HK6 := hide1 (gtrans HK4w.out hk6); clear hk6)
            go_roundw
            case rel => exact ⟨j + 1, by go_num, by rw [HPS.out]; omega, HJ3, HK6⟩
            case measure => simp [intOf]; omega
          · have b0 : (er != 0) = true := by simpa using h0
            have HJ3 : Hid (placesP lex nn st ps = (er, (j : Int))) := by show _ = _; rw [HJ2.out, if_neg h0]
            clear h0
            go_wp2_with (go_at_call 55; refine (firstWrong_is k al an ar nl cl nn cn nr cr lex row HLEN.out HNR.out (by omega) _ st _ (HL.out.keep (gtrans HKw.out HK4.out)) (HRT.out.keep HK4.out)).mono ?_; rintro e w6 ⟨rfl, hk6⟩; rw [HER.out]; have HK6 := hide1 (gtrans HK4w.out hk6); have HF6 := hide1 (HF4.out.keep hk6); obtain ⟨⟨f0, f1, f2⟩, z0, z1, z2⟩ := HF6.out.cells; clear hk6)
            refine bodyPost_ret (results_cell_row rfl _ _ (b + 1) 44 _ (0, 0) _ rfl (HF6.out.fill er (j : Int)) Tryd.underlying44 rfl (fault_size _ _)) rfl ?_
            exact ⟨(er, (j : Int)), rfl, HJ3.out.symm, keepB (keepB (keepB (gtrans HK.out HK6.out) (by rw [HSZ.out]; omega)) (by rw [HSZ.out]; omega)) (by rw [HSZ.out]; omega)⟩
        · have HW2 := hide1 (in_b false (by simpa using hin))
          have HJ3 : Hid (placesP lex nn st ps = (70, (j : Int))) := by
            show _ = _
            rw [HJ.out, HD.out]
            show (if 0 ≤ l ∧ l < (nn : Int) then _ else _) = _
            rw [if_neg hin]
          clear hin
          obtain ⟨⟨f0, f1, f2⟩, z0, z1, z2⟩ := HF4.out.cells
          go_wp2_with (go_at_call 56; refine (within_at l (nn : Int) false HW2.out _).mono ?_; rintro e w5 ⟨rfl, hw5⟩; replace hw5 := hw5.symm; subst hw5)
          refine bodyPost_ret (results_cell_row rfl _ _ (b + 1) 44 _ (0, 0) _ rfl (HF4.out.fill 70 (j : Int)) Tryd.underlying44 rfl (fault_size _ _)) rfl ?_
          exact ⟨(70, (j : Int)), rfl, HJ3.out.symm, keepB (keepB (keepB (gtrans HK.out HK4w.out) (by rw [HSZ.out]; omega)) (by rw [HSZ.out]; omega)) (by rw [HSZ.out]; omega)⟩
      · have HJ3 : Hid (placesP lex nn st ps = (0, 0)) := by
          show _ = _
          rw [HJ.out, List.drop_of_length_le (by have := HPS.out; omega)]
          rfl
        have HF4 := hide1 (HF.out.keep HKr.out)
        obtain ⟨⟨f0, f1, f2⟩, z0, z1, z2⟩ := HF4.out.cells
        go_wp2_with fail
        refine bodyPost_ret (results_cell_row rfl _ _ (b + 1) 44 _ (0, 0) _ rfl (HF4.out.fill 0 0) Tryd.underlying44 rfl (fault_size _ _)) rfl ?_
        exact ⟨(0, 0), rfl, HJ3.out.symm, keepB (keepB (keepB (gtrans HK.out HKr.out) (by rw [HSZ.out]; omega)) (by rw [HSZ.out]; omega)) (by rw [HSZ.out]; omega)⟩
  · have HW1 := hide1 (in_b false (by simpa using hst))
    have HX : Hid (placesP lex nn st ps = (70, -1)) := by show _ = _; unfold placesP; rw [if_neg hst]
    clear hst
    obtain ⟨⟨f0, f1, f2⟩, z0, z1, z2⟩ := HF.out.cells
    go_wp2_with (go_at_call 56; refine (within_at st (nn : Int) false HW1.out _).mono ?_; rintro e w4 ⟨rfl, hw4⟩; replace hw4 := hw4.symm; subst hw4)
    refine bodyPost_ret (results_cell_row rfl _ _ (b + 1) 44 _ (0, 0) _ rfl (HF.out.fill 70 (-1)) Tryd.underlying44 rfl (fault_size _ _)) rfl ?_
    exact ⟨(70, -1), rfl, HX.out.symm, keepB (keepB (keepB HK.out (by rw [HSZ.out]; omega)) (by rw [HSZ.out]; omega)) (by rw [HSZ.out]; omega)⟩

end Ex
end Go.Proofs.YtooelfjceehmmaaDoor
namespace Go.Proofs.YtooelfjceehmmaaDoor
open Go.RowKit
attribute [local go_sem] Oper.semAt_some
namespace Ex

/-- The sizes of 128 names, in a block. -/
def szL (v : Nat → Nat) : List Value := (List.range 128).map fun i => Value.int .i64 (v i : Int)
def szV (v : Nat → Nat) : Array Value := (szL v).toArray
theorem szV_size (v : Nat → Nat) : (szV v).size = 128 := by simp [szV, szL]
theorem szV_at (v : Nat → Nat) {i : Nat} (h : i < 128) : (szV v)[i]? = some (.int .i64 (v i : Int)) := by simp [szV, szL, h]
theorem szV_congr {v v' : Nat → Nat} (h : ∀ i, i < 128 → v i = v' i) : szV v = szV v' := by
  unfold szV szL
  congr 1
  apply List.map_congr_left
  intro i hi
  rw [h i (List.mem_range.1 hi)]
def SzB (w : World) (b : Nat) (v : Nat → Nat) : Prop := w.heap[b]? = some (.cells (szV v) 140 (0, 0))
theorem SzB.cell {w : World} {b i : Nat} {v : Nat → Nat} (h : SzB w b v) (hi : i < 128) : w.cell? ⟨b, i, none⟩ = some (.int .i64 (v i : Int)) := by
  unfold SzB at h
  simp only [World.cell?, h]
  exact szV_at v hi
theorem SzB.free {w : World} {b : Nat} {v : Nat → Nat} (i : Nat) (h : SzB w b v) : w.frozen? ⟨b, i, none⟩ = false := by
  unfold SzB at h
  simp [World.frozen?, h]
theorem SzB.lt {w : World} {b : Nat} {v : Nat → Nat} (h : SzB w b v) : b < w.heap.size := (Array.getElem?_eq_some_iff.1 h).1
theorem SzB.keep {w w' : World} {b : Nat} {v : Nat → Nat} (h : SzB w b v) (hk : Kept w w') : SzB w' b v := (hk.2.2.2.2 b h.lt).trans h
theorem SzB.but {w w' : World} {b c : Nat} {v : Nat → Nat} (h : SzB w b v) (hk : KeptBut c w w') (hc : b ≠ c) : SzB w' b v := (hk.2.2.2.2 b h.lt hc).trans h
theorem SzB.new (w : World) (v : Nat → Nat) : SzB (w.alloc (.cells (szV v) 140)) w.heap.size v := heap_alloc_new w _
def putV (v : Nat → Nat) (k x : Nat) : Nat → Nat := fun i => if i = k then x else v i
theorem szV_set (v : Nat → Nat) {k : Nat} (x : Nat) (hk : k < 128) : (szV v).setIfInBounds k (.int .i64 (x : Int)) = szV (putV v k x) := by
  apply Array.ext_getElem?
  intro i
  rw [Array.getElem?_setIfInBounds, szV_size]
  by_cases hi : i < 128
  · rw [szV_at _ hi, szV_at _ hi]
    unfold putV
    by_cases h : k = i
    · subst h; simp [hi]
    · simp [h, show ¬ i = k from fun e => h e.symm]
  · have h1 : ∀ B, (szV B)[i]? = none := fun B => by rw [Array.getElem?_eq_none_iff, szV_size]; omega
    rw [h1, h1, if_neg (by omega)]
theorem SzB.set {w : World} {b k : Nat} {v : Nat → Nat} (h : SzB w b v) (x : Nat) (hk : k < 128) : SzB (w.setCell ⟨b, k, none⟩ (.int .i64 (x : Int))) b (putV v k x) := by
  unfold SzB at h ⊢
  have hl : b < w.heap.size := (Array.getElem?_eq_some_iff.1 h).1
  have he : w.heap[b] = Obj.cells (szV v) 140 (0, 0) := by rw [Array.getElem?_eq_getElem hl] at h; exact Option.some.inj h
  rw [← szV_set v x hk]
  simp [World.setCell, Array.getElem_modify, hl, he]
theorem sz_size (v : Nat → Nat) : (Tryd.prog.info? 140).map (·.size) = some (szV v).size := by rw [szV_size]; kernel_rfl
theorem szV_one (v : Nat → Nat) : (szV v).all (·.oneCell') = true := by
  rw [Array.all_eq_true_iff_forall_mem]
  intro x hx
  have hx : x ∈ szL v := by simpa [szV] using hx
  obtain ⟨i, _, rfl⟩ := List.mem_map.1 hx
  rfl
theorem zero_sz : Tryd.zeroCells140 = szV (fun _ => 0) := by kernel_rfl
theorem sz_zero (w : World) : SzB (w.alloc (.cells Tryd.zeroCells140 140)) w.heap.size (fun _ => 0) := by
  rw [zero_sz]
  exact heap_alloc_new w _
def TcI (v : Nat → Nat) (row : List SymM) (w : World) (vc vi : Value) (wr : World) : Prop := ∃ j c : Nat, vc = .int .i64 (c : Int) ∧ vi = .int .i64 (j : Int) ∧ j ≤ row.length ∧ c ≤ 1 + 257 * j ∧ Hid (treeC v row 1 = treeC v (row.drop j) c) ∧ Hid (Kept w wr)
set_option linter.unusedSimpArgs false in
set_option maxRecDepth 100000 in
set_option maxHeartbeats 4000000 in
theorem sTree_is (d : Nat) (v : Nat → Nat) (ar : Option Addr) (nr cr : Nat) (row : List SymM) (w : World) (hv : ∀ n, v n ≤ 257) (hrow : row.length = nr) (hr : RightAt w (.slice ar nr cr) row) (hS : SzB w d v) (hok : ∀ x ∈ row, NamesOk x) :
    Calls Tryd.prog 100 #[.pointer (some ⟨d, 0, none⟩), .slice ar nr cr] w fun e w' => e = .returned (.int .i64 ((treeC v row 1 : Nat) : Int)) ∧ Kept w w' := by
  have HROW := hide1 hrow
  have HR := hide1 hr
  have HS := hide1 hS
  have HV := hide1 hv
  have HOK := hide1 hok
  obtain ⟨_, _, e1, hc, hn⟩ := hr.len
  simp only [Value.slice.injEq] at e1
  obtain ⟨rfl, en, rfl⟩ := e1
  clear en
  rw [hrow] at hc hn
  have gn : (nr : Int) ≤ 17592186044416 := by omega
  clear hrow hr hS hv hok
  go_enter Tryd.func100, Tryd.ntmps100
  go_wp2_with fail
  go_loopw [5, 10] (TcI v row w) (fun _ i _ => nr - (intOf i).toNat)
  case atStart => exact ⟨0, 1, rfl, rfl, Nat.zero_le _, by omega, rfl, Kept.refl w⟩
  case round =>
    obtain ⟨j, c, rfl, rfl, hj, hcj, HM, HKr⟩ := hrel
    rw [HROW.out] at hj
    by_cases hlt : (j : Int) < (nr : Int)
    · obtain ⟨x, hx⟩ : ∃ x, row[j]? = some x := ⟨_, List.getElem?_eq_getElem (by have := HROW.out; omega)⟩
      obtain ⟨cb, ob, cs, ea, hcb, hlen, hcell, hcs⟩ := SliceOf.el (HR.out.keep HKr.out) hx
      have hcs : cs = [.int .i64 x.1, .int .i64 x.2] := hcs
      subst ea hcs
      have k0 : wr.cell? ⟨cb, ob + j * 2, none⟩ = some (.int .i64 x.1) := hcell 0 _ rfl
      have k1 := hcell 1 _ rfl
      have HOX := hide1 (HOK.out x (List.mem_of_getElem? hx))
      have gjc : (j : Int) < (cr : Int) := by omega
      have HD : Hid (row.drop j = x :: row.drop (j + 1)) := by
        obtain ⟨hj2, e⟩ := List.getElem?_eq_some_iff.1 hx
        show _ = _
        rw [List.drop_eq_getElem_cons hj2, e]
      obtain ⟨kd, nn⟩ := x
      clear hx hcell
      have HX := hide1 (XBox.new wr kd nn)
      have HK4 : Hid (Kept wr (wr.alloc (.cells #[.int .i64 kd, .int .i64 nn] 58))) := (Kept.refl wr).alloc _ _
      go_upto_region 5 with fail
      clear k0 k1
      obtain ⟨W4, hW4⟩ : ∃ W4, wr.alloc (.cells #[.int .i64 kd, .int .i64 nn] 58) = W4 := ⟨_, rfl⟩
      rw [hW4] at HX HK4 ⊢
      clear hW4
      obtain ⟨xb, hxb⟩ : ∃ xb, wr.heap.size = xb := ⟨_, rfl⟩
      rw [hxb] at HX ⊢
      clear hxb
      obtain ⟨t0, t1⟩ := HX.out.cells
      by_cases h3 : kd = 3
      · subst h3
        obtain ⟨hn0, hn1⟩ := HOX.out rfl
        obtain ⟨p, rfl⟩ : ∃ p : Nat, nn = (p : Int) := ⟨nn.toNat, by simp only at hn0; omega⟩
        have hp8 : p < 128 := by simp only at hn1; omega
        have gp : (p : Int) < 128 := by omega
        have s0 := (HS.out.keep (gtrans HKr.out HK4.out)).cell hp8
        have HP := hide1 (HV.out p)
        obtain ⟨z, hz⟩ : ∃ z, v p = z := ⟨_, rfl⟩
        rw [hz] at s0 HP
        have hz2 : z ≤ 257 := HP.out
        have HM2 : Hid (treeC v row 1 = treeC v (row.drop (j + 1)) (c + z)) := by
          show _ = _
          rw [HM.out, HD.out]
          show (if (3 : Int) = 3 then treeC v (row.drop (j + 1)) (c + v p) else 257) = _
          rw [if_pos rfl, hz]
        clear hz hn0 hn1 HP
        go_upto_region 7 with fail
        go_quiet (fail)
        go_wp2_with fail
        go_roundw
        case rel => exact ⟨j + 1, c + z, by go_num, by go_num, by rw [HROW.out]; omega, by omega, HM2, gtrans (gtrans HKr.out HK4.out) (drewN_kept _ _)⟩
        case measure => simp [intOf]; omega
      · have hb3 : (kd != 3) = true := by simpa using h3
        have HM2 : Hid (treeC v row 1 = 257) := by
          show _ = _
          rw [HM.out, HD.out]
          show (if kd = 3 then _ else 257) = _
          rw [if_neg h3]
        clear h3
        go_wp2_with fail
        go_ret
        exact ⟨by rw [HM2.out]; rfl, gtrans HKr.out HK4.out⟩
    · have HM2 : Hid (treeC v row 1 = c) := by
        show _ = _
        rw [HM.out, List.drop_of_length_le (by have := HROW.out; omega)]
        rfl
      go_wp2_with fail
      go_ret
      exact ⟨by rw [HM2.out]; rfl, HKr.out⟩

end Ex
end Go.Proofs.YtooelfjceehmmaaDoor
