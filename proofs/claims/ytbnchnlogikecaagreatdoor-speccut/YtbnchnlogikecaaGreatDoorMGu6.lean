import Derived.Test.YtbnchnlogikecaaGreatDoorMGu2
namespace Go.Proofs.YtbnchnlogikecaaGreatDoor
open Go.RowKit
attribute [local go_sem] Oper.semAt_some
set_option linter.unusedVariables false
namespace Ex
namespace Gu
open Sh Gs

abbrev CkS : Type := List ByteArray × List ByteArray
def rulesC : Nat → List LxM → CkS → Except Flt CkS
  | _, [], r => .ok r
  | i, x :: xs, r => (ruleC (i : Int) x r).bind fun r1 => rulesC (i + 1) xs r1
def namesC : Nat → List ByteArray → CkS → Except Flt CkS
  | _, [], r => .ok r
  | i, x :: xs, r => (nameC (i : Int) x namesW r).bind fun r1 => namesC (i + 1) xs r1
def prodsC (ln nn : Nat) : Nat → List ProdM → Int → Except Flt Int
  | _, [], a => .ok a
  | i, p :: ps, a => (prodC ln nn (i : Int) p a).bind fun _ => prodsC ln nn (i + 1) ps p.1
def lastC (ln nn : Nat) (st : Int) (ps : List ProdM) (r : CkS) : Except Flt CkS :=
  if (decide (0 ≤ st) && decide (st < (nn : Int))) = false then .error (63, 0, startW)
  else (prodsC ln nn 0 ps (-1)).bind fun a => if a ≠ (nn : Int) - 1 then .error (65, (ps.length : Int), prodsW) else .ok r
def checkC (sp : SpV) : Except Flt CkS :=
  (sizesC sp.lex.length sp.nam.length sp.prd).bind fun _ => (rulesC 0 sp.lex ([], [])).bind fun r1 => (namesC 0 sp.nam r1).bind fun r2 => lastC sp.lex.length sp.nam.length sp.start sp.prd r2
theorem nameC_ok {a : Int} {nm ls : ByteArray} {r r' : CkS} (h : nameC a nm ls r = .ok r') : r'.1.length = r.1.length + 1 ∧ r'.2 = r.2 := by
  unfold nameC at h
  split at h
  · cases h
  · split at h
    · cases h
    · cases h
      exact ⟨by rw [List.length_append]; rfl, rfl⟩
theorem ruleC_ok {a : Int} {x : LxM} {r r' : CkS} (h : ruleC a x r = .ok r') : r'.1.length = r.1.length + 1 ∧ r'.2.length = r.2.length + 1 := by
  unfold ruleC at h
  obtain ⟨r1, h1, h⟩ := bind_ok h
  obtain ⟨h2, h3⟩ := nameC_ok h1
  split at h
  · cases h
  · cases h
    exact ⟨h2, by rw [List.length_append, h3]; rfl⟩
theorem prodC_ok {ln nn : Nat} {a : Int} {p : ProdM} {ah : Int} {u : Unit} (h : prodC ln nn a p ah = .ok u) : 0 ≤ p.1 ∧ p.1 < (nn : Int) := by
  unfold prodC at h
  split at h
  · cases h
  · rename_i h1
    simp only [Bool.not_eq_false, Bool.and_eq_true, decide_eq_true_eq] at h1
    exact h1
theorem sizesC_ok {ln nn : Nat} {ps : List ProdM} {u : Unit} (h : sizesC ln nn ps = .ok u) : ln ≤ 64 ∧ nn ≤ 128 ∧ ps.length ≤ 512 := by
  unfold sizesC at h
  split at h
  · cases h
  · split at h
    · cases h
    · split at h
      · cases h
      · omega
theorem lex_el {w : World} {a : Option Addr} {n c : Nat} {l : List LxM} (h : SliceOf w 8 (LexE w) (.slice a n c) l) {i : Nat} {x : LxM} (hi : l[i]? = some x) : ∃ cb o ka kn kc, a = some ⟨cb, o, none⟩ ∧ (w.cell? ⟨cb, o + i * 8, none⟩ = some (.string x.1) ∧ w.cell? ⟨cb, o + i * 8 + 1, none⟩ = some (.bool x.2.1) ∧ w.cell? ⟨cb, o + i * 8 + 2, none⟩ = some (.int .i64 (kind x.2.2.2)) ∧ w.cell? ⟨cb, o + i * 8 + 3, none⟩ = some (.int .i64 (from_ x.2.2.2)) ∧ w.cell? ⟨cb, o + i * 8 + 4, none⟩ = some (.int .i64 (to_ x.2.2.2)) ∧ w.cell? ⟨cb, o + i * 8 + 5, none⟩ = some (.int .i64 (min_ x.2.2.2)) ∧ w.cell? ⟨cb, o + i * 8 + 6, none⟩ = some (.int .i64 (max_ x.2.2.2)) ∧ w.cell? ⟨cb, o + i * 8 + 7, none⟩ = some (.slice ka kn kc)) ∧ KidsAt (fun d => d < w.heap.size) w x.2.2.1 (kids x.2.2.2) (.slice ka kn kc) := by
  obtain ⟨cb, o, cs, e, _, _, hc, v', rfl, _, hk⟩ := SliceOf.el0 h hi
  obtain ⟨ka, kc, rfl⟩ := hk.form
  exact ⟨cb, o, ka, _, kc, e, ⟨hc 0 _ rfl, hc 1 _ rfl, hc 2 _ rfl, hc 3 _ rfl, hc 4 _ rfl, hc 5 _ rfl, hc 6 _ rfl, hc 7 _ rfl⟩, hk⟩
theorem names_el {w : World} {a : Option Addr} {n c : Nat} {l : List ByteArray} (h : NamesAt w (.slice a n c) l) {i : Nat} {x : ByteArray} (hi : l[i]? = some x) : ∃ cb o, a = some ⟨cb, o, none⟩ ∧ w.cell? ⟨cb, o + i, none⟩ = some (.string x) ∧ x.size ≤ 200000000000000 := by
  obtain ⟨cb, o, cs, e, _, _, hc, rfl, hs⟩ := SliceOf.el0 h hi
  have h1 := hc 0 _ rfl
  rw [Nat.mul_one] at h1
  exact ⟨cb, o, e, h1, hs⟩

set_option linter.unusedSimpArgs false in
set_option maxRecDepth 100000 in
set_option maxHeartbeats 8000000 in
theorem cwhole_is (w0 : World) (hP : PowAt w0) (b m : Nat) (la na pa : Option Addr) (ln lc nn nc pn pc : Nat) (sp : SpV) (xP : SlV) (w : World) (h : ChI w0 w b (.slice la ln lc) (.slice na nn nc) (.slice pa pn pc) sp.start [] [] m xP) (hr : SpR w0 (.slice la ln lc) (.slice na nn nc) (.slice pa pn pc) sp) :
    Calls Tryz.prog 42 #[.pointer (some ⟨b, 0, none⟩)] w (OutK w0 b (.slice la ln lc) (.slice na nn nc) (.slice pa pn pc) sp.start m xP w (checkC sp)) := by
  obtain ⟨R, hR⟩ : ∃ R, checkC sp = R := ⟨_, rfl⟩
  rw [hR]
  unfold checkC at hR
  obtain ⟨lx, nms, st, ps⟩ := sp
  dsimp only at hR h ⊢
  obtain ⟨hr1, hr2, hr3⟩ := hr
  dsimp only at hr1 hr2 hr3
  obtain ⟨hln, hlc, -⟩ := slice_n hr1
  obtain ⟨hnn, hnc, -⟩ := slice_n hr2
  obtain ⟨hpn, hpc, -⟩ := slice_n hr3
  rw [hln, hnn] at hR
  have HR1 := hide1 hr1
  have HR2 := hide1 hr2
  have HR3 := hide1 hr3
  have HLN := hide1 hln
  have HNN := hide1 hnn
  have HPN := hide1 hpn
  have HP := hide1 hP
  have HI := hide1 h
  obtain ⟨X0, hX0⟩ : ∃ X, sizesC ln nn ps = X := ⟨_, rfl⟩
  rw [hX0] at hR
  have HSZ := hide1 (sizes_is b la na pa ln lc nn nc pn pc ps w h.box.cells.1.1 h.box.cells.1.2.1 h.box.cells.1.2.2.2.1 (ProdsAt.keep hr3 h.kept))
  rw [hX0] at HSZ
  have HX0 : Hid (∀ u, X0 = .ok u → ln ≤ 64 ∧ nn ≤ 128 ∧ ps.length ≤ 512) := fun u h => sizesC_ok (hX0.trans h)
  have HR := hide1 hR
  clear hR hX0 hr1 hr2 hr3 hln hnn hpn hP h
  go_enter Tryz.func42, Tryz.ntmps42
  go_wp2_with fail
  go_at_call 53
  refine HSZ.out.mono ?_
  intro e w1 h1
  rcases X0 with f | u
  · obtain ⟨rfl, hk1⟩ := h1
    have h9 : OutK w0 b (.slice la ln lc) (.slice na nn nc) (.slice pa pn pc) st m xP w R (thrown f.1 f.2.1 f.2.2) w1 := outK_err (show R = .error (f.1, f.2.1, f.2.2) from HR.out.symm) (gtrans HI.out.kept hk1) ((GoK.refl b m xP w).kept hk1).1
    unfold thrown at h9 ⊢
    go_wp2_with fail
    exact ⟨rfl, h9⟩
  obtain ⟨rfl, hk1⟩ := h1
  obtain ⟨hln, hnn, hpn⟩ := HX0.out u rfl
  have hlI : (ln : Int) ≤ 64 := by omega
  have hnI : (nn : Int) ≤ 128 := by omega
  have hpI : (pn : Int) ≤ 512 := by have := HPN.out; omega
  have HI1 := hide1 (HI.out.keep hk1)
  have HG1 := hide1 ((GoK.refl b m xP w).kept hk1)
  obtain ⟨X1, hX1⟩ : ∃ X, rulesC 0 lx ([], []) = X := ⟨_, rfl⟩
  have hR1 : (X1.bind fun r1 => (namesC 0 nms r1).bind fun r2 => lastC ln nn st ps r2) = R := by rw [← hX1]; exact HR.out
  have HRR := hide1 hR1
  have HXX := hide1 hX1
  clear hk1 hln hnn hpn hX1 hR1 HR HX0 HSZ HI
  go_upto_region 1 with fail
  have d0 := HI1.out.box.cells.1.1
  go_wp2_with fail
  go_loopw [17] (fun v17 wr => ∃ i : Nat, v17 = .int .i64 (i : Int) ∧ i ≤ ln ∧ Hid (∃ (r : CkS) (xQ : SlV), rulesC i (lx.drop i) r = X1 ∧ ChI w0 wr b (.slice la ln lc) (.slice na nn nc) (.slice pa pn pc) st r.1 r.2 m xQ ∧ GoK b m xP w xQ wr ∧ r.1.length = i ∧ r.2.length = i)) (fun v17 _ => ln - (intOf v17).toNat)
  case atStart => exact ⟨0, rfl, Nat.zero_le _, ([], []), xP, HXX.out, HI1.out, HG1.out, rfl, rfl⟩
  case round =>
    clear d0 HI1 HG1 HXX
    obtain ⟨i, rfl, hi, hI⟩ := hrel
    obtain ⟨r, xQ, hq, hc, hg, ht1, ht2⟩ := hI.out
    have HC := hide1 hc
    have HG := hide1 hg
    have HT1 := hide1 ht1
    have HT2 := hide1 ht2
    by_cases hlt : i < ln
    · have hil : i < lx.length := by rw [HLN.out]; exact hlt
      obtain ⟨x, hxe⟩ : ∃ x, lx[i]'hil = x := ⟨_, rfl⟩
      have hxi : lx[i]? = some x := by rw [List.getElem?_eq_getElem hil, hxe]
      rw [List.drop_eq_getElem_cons hil, hxe, rulesC] at hq
      obtain ⟨cb, ob, ka, kn, kc, hla, ⟨k0, k1, k2, k3, k4, k5, k6, k7⟩, hkd⟩ := lex_el HR1.out hxi
      subst hla
      obtain ⟨Y, hY⟩ : ∃ Y, ruleC (i : Int) x r = Y := ⟨_, rfl⟩
      rw [hY] at hq
      have HRU : Hid (∀ w xQ, ChI w0 w b (.slice (some ⟨cb, ob, none⟩) ln lc) (.slice na nn nc) (.slice pa pn pc) st r.1 r.2 m xQ → Calls Tryz.prog 54 #[.pointer (some ⟨b, 0, none⟩), .int .i64 (i : Int), .agg #[.string x.1, .bool x.2.1, .int .i64 (kind x.2.2.2), .int .i64 (from_ x.2.2.2), .int .i64 (to_ x.2.2.2), .int .i64 (min_ x.2.2.2), .int .i64 (max_ x.2.2.2), .slice ka kn kc]] w (OutK w0 b (.slice (some ⟨cb, ob, none⟩) ln lc) (.slice na nn nc) (.slice pa pn pc) st m xQ w Y)) := fun w xQ h => by
        rw [← hY]
        exact crule_is w0 HP.out b _ _ _ st (i : Int) x ka kn kc r m xQ w h (by rw [HT1.out]; omega) (by rw [HT2.out]; omega) hkd
      have HYO : Hid (∀ r1, Y = .ok r1 → r1.1.length = i + 1 ∧ r1.2.length = i + 1) := fun r1 h => by
        have := ruleC_ok (hY.trans h)
        rw [HT1.out, HT2.out] at this
        exact this
      have HQ := hide1 hq
      have eI : (i : Int) < (ln : Int) := by omega
      have gjc : (i : Int) < (lc : Int) := by omega
      have HI2 := hide1 hlt
      have k0 := grown_cell HC.out.kept k0
      have k1 := grown_cell HC.out.kept k1
      have k2 := grown_cell HC.out.kept k2
      have k3 := grown_cell HC.out.kept k3
      have k4 := grown_cell HC.out.kept k4
      have k5 := grown_cell HC.out.kept k5
      have k6 := grown_cell HC.out.kept k6
      have k7 := grown_cell HC.out.kept k7
      obtain ⟨nm, tr, n, pt⟩ := x
      dsimp only at HRU k0 k1 k2 k3 k4 k5 k6
      obtain ⟨⟨e0, hE0⟩, ⟨e1, hE1⟩, ⟨e2, hE2⟩, ⟨e3, hE3⟩, ⟨e4, hE4⟩⟩ : (∃ x, kind pt = x) ∧ (∃ x, from_ pt = x) ∧ (∃ x, to_ pt = x) ∧ (∃ x, min_ pt = x) ∧ (∃ x, max_ pt = x) := ⟨⟨_, rfl⟩, ⟨_, rfl⟩, ⟨_, rfl⟩, ⟨_, rfl⟩, ⟨_, rfl⟩⟩
      rw [hE0, hE1, hE2, hE3, hE4] at HRU
      rw [hE0] at k2
      rw [hE1] at k3
      rw [hE2] at k4
      rw [hE3] at k5
      rw [hE4] at k6
      have HCA := hide1 (HC.out.keep ((Kept.refl wr).alloc #[.string nm, .bool tr, .int .i64 e0, .int .i64 e1, .int .i64 e2, .int .i64 e3, .int .i64 e4, .slice ka kn kc] 72))
      have HGA := hide1 (HG.out.kept ((Kept.refl wr).alloc #[.string nm, .bool tr, .int .i64 e0, .int .i64 e1, .int .i64 e2, .int .i64 e3, .int .i64 e4, .slice ka kn kc] 72))
      have HBA : Hid ((wr.alloc (.cells #[.string nm, .bool tr, .int .i64 e0, .int .i64 e1, .int .i64 e2, .int .i64 e3, .int .i64 e4, .slice ka kn kc] 72)).heap[wr.heap.size]? = some (.cells #[.string nm, .bool tr, .int .i64 e0, .int .i64 e1, .int .i64 e2, .int .i64 e3, .int .i64 e4, .slice ka kn kc] 72 (0, 0))) := heap_alloc_new wr _
      clear hI hq hc hg ht1 ht2 hlt hi hxe hxi hil hkd hY hE0 hE1 hE2 hE3 hE4 HC HG
      go_upto_region 4 with fail
      obtain ⟨g3, hg3⟩ : ∃ g, wr.heap.size = g := ⟨_, rfl⟩
      generalize wr.alloc (.cells #[.string nm, .bool tr, .int .i64 e0, .int .i64 e1, .int .i64 e2, .int .i64 e3, .int .i64 e4, .slice ka kn kc] 72) = W2 at HCA HGA HBA ⊢
      rw [hg3] at HBA ⊢
      clear hg3 k0 k1 k2 k3 k4 k5 k6 k7
      have k0 : W2.cell? ⟨g3, 0, none⟩ = some (.string nm) := by have := HBA.out; simp [World.cell?, this]
      have k1 : W2.cell? ⟨g3, 1, none⟩ = some (.bool tr) := by have := HBA.out; simp [World.cell?, this]
      have k2 : W2.cell? ⟨g3, 2, none⟩ = some (.int .i64 e0) := by have := HBA.out; simp [World.cell?, this]
      have k3 : W2.cell? ⟨g3, 3, none⟩ = some (.int .i64 e1) := by have := HBA.out; simp [World.cell?, this]
      have k4 : W2.cell? ⟨g3, 4, none⟩ = some (.int .i64 e2) := by have := HBA.out; simp [World.cell?, this]
      have k5 : W2.cell? ⟨g3, 5, none⟩ = some (.int .i64 e3) := by have := HBA.out; simp [World.cell?, this]
      have k6 : W2.cell? ⟨g3, 6, none⟩ = some (.int .i64 e4) := by have := HBA.out; simp [World.cell?, this]
      have k7 : W2.cell? ⟨g3, 7, none⟩ = some (.slice ka kn kc) := by have := HBA.out; simp [World.cell?, this]
      go_wp2_with fail
      go_at_call 54
      refine (HRU.out _ _ HCA.out).mono ?_
      intro e w3 h3
      rcases Y with f | r1
      · obtain ⟨rfl, hk3, hkt3⟩ := h3
        have hx1 : X1 = .error (f.1, f.2.1, f.2.2) := HQ.out.symm
        have h9 : OutK w0 b (.slice (some ⟨cb, ob, none⟩) ln lc) (.slice na nn nc) (.slice pa pn pc) st m xP w R (thrown f.1 f.2.1 f.2.2) w3 := outK_err (show R = .error (f.1, f.2.1, f.2.2) from by rw [← HRR.out, hx1]; rfl) hk3 (HGA.out.kt hkt3)
        clear hx1
        unfold thrown at h9 ⊢
        go_wp2_with fail
        exact ⟨rfl, h9⟩
      obtain ⟨rfl, xQ2, hc3, hg3⟩ := h3
      have HC3 := hide1 hc3
      have HG3 := hide1 (HGA.out.trans hg3)
      have HY1 := hide1 (HYO.out r1 rfl)
      clear hc3 hg3 k0 k1 k2 k3 k4 k5 k6 k7
      go_wp2_with fail
      refine ⟨⟨i + 1, by rfl, HI2.out, r1, xQ2, HQ.out, HC3.out, HG3.out, HY1.out.1, HY1.out.2⟩, ?_⟩
      have := HI2.out
      simp [intOf]; omega
    have eI : ¬ ((i : Int) < (ln : Int)) := by omega
    rw [List.drop_eq_nil_of_le (by rw [HLN.out]; omega), rulesC] at hq
    subst hq
    have hil : i = ln := by omega
    obtain ⟨X2, hX2⟩ : ∃ X, namesC 0 nms r = X := ⟨_, rfl⟩
    have hR1 : (X2.bind fun r2 => lastC ln nn st ps r2) = R := by rw [← hX2]; exact HRR.out
    have HRS := hide1 hR1
    have HXX := hide1 hX2
    have HIL := hide1 (show i ≤ 64 by omega)
    clear hI hc hg ht1 ht2 hR1 hX2 HRR hil hlt hi
    have d1 := HC.out.box.cells.1.2.1
    go_wp2_with fail
    clear d1 eI
    go_loopw [33] (fun v33 wr => ∃ j : Nat, v33 = .int .i64 (j : Int) ∧ j ≤ nn ∧ Hid (∃ (q : CkS) (xQ : SlV), namesC j (nms.drop j) q = X2 ∧ ChI w0 wr b (.slice la ln lc) (.slice na nn nc) (.slice pa pn pc) st q.1 q.2 m xQ ∧ GoK b m xP w xQ wr ∧ q.1.length = i + j)) (fun v33 _ => nn - (intOf v33).toNat)
    case atStart => exact ⟨0, rfl, Nat.zero_le _, r, xQ, HXX.out, HC.out, HG.out, HT1.out⟩
    case round =>
      clear HC HG HXX HT1 HT2
      obtain ⟨j, rfl, hj, hJ⟩ := hrel
      obtain ⟨q, xQ1, hq, hc, hg, ht1⟩ := hJ.out
      have HC := hide1 hc
      have HG := hide1 hg
      have HT1 := hide1 ht1
      by_cases hlt : j < nn
      · have hjl : j < nms.length := by rw [HNN.out]; exact hlt
        obtain ⟨nm, hxe⟩ : ∃ x, nms[j]'hjl = x := ⟨_, rfl⟩
        have hxi : nms[j]? = some nm := by rw [List.getElem?_eq_getElem hjl, hxe]
        rw [List.drop_eq_getElem_cons hjl, hxe, namesC] at hq
        obtain ⟨cb, ob, hna, k0, -⟩ := names_el HR2.out hxi
        subst hna
        obtain ⟨Y, hY⟩ : ∃ Y, nameC (j : Int) nm namesW q = Y := ⟨_, rfl⟩
        rw [hY] at hq
        have HNA : Hid (∀ w xQ, ChI w0 w b (.slice la ln lc) (.slice (some ⟨cb, ob, none⟩) nn nc) (.slice pa pn pc) st q.1 q.2 m xQ → Calls Tryz.prog 55 #[.pointer (some ⟨b, 0, none⟩), .int .i64 (j : Int), .string nm, .string ⟨#[110, 97, 109, 101, 115]⟩] w (OutK w0 b (.slice la ln lc) (.slice (some ⟨cb, ob, none⟩) nn nc) (.slice pa pn pc) st m xQ w Y)) := fun w xQ h => by
          rw [← hY]
          exact name_is w0 b _ _ _ st (j : Int) nm namesW q m xQ w h (by rw [HT1.out]; have := HIL.out; omega)
        have HYO : Hid (∀ r1, Y = .ok r1 → r1.1.length = i + (j + 1)) := fun r1 h => by
          have := (nameC_ok (hY.trans h)).1
          rw [HT1.out] at this
          omega
        have HQ := hide1 hq
        have eJ : (j : Int) < (nn : Int) := by omega
        have gjc : (j : Int) < (nc : Int) := by omega
        have HI2 := hide1 hlt
        have k0 := grown_cell HC.out.kept k0
        clear hJ hq hc hg ht1 hlt hj hxe hxi hjl hY
        go_wp2_with fail
        go_at_call 55
        refine (HNA.out _ _ HC.out).mono ?_
        intro e w3 h3
        rcases Y with f | r1
        · obtain ⟨rfl, hk3, hkt3⟩ := h3
          have hx1 : X2 = .error (f.1, f.2.1, f.2.2) := HQ.out.symm
          have h9 : OutK w0 b (.slice la ln lc) (.slice (some ⟨cb, ob, none⟩) nn nc) (.slice pa pn pc) st m xP w R (thrown f.1 f.2.1 f.2.2) w3 := outK_err (show R = .error (f.1, f.2.1, f.2.2) from by rw [← HRS.out, hx1]; rfl) hk3 (HG.out.kt hkt3)
          clear hx1
          unfold thrown at h9 ⊢
          go_wp2_with fail
          exact ⟨rfl, h9⟩
        obtain ⟨rfl, xQ2, hc3, hg3⟩ := h3
        have HC3 := hide1 hc3
        have HG3 := hide1 (HG.out.trans hg3)
        have HY1 := hide1 (HYO.out r1 rfl)
        clear hc3 hg3 k0
        go_wp2_with fail
        refine ⟨⟨j + 1, by rfl, HI2.out, r1, xQ2, HQ.out, HC3.out, HG3.out, HY1.out⟩, ?_⟩
        have := HI2.out
        simp [intOf]; omega
      have eJ : ¬ ((j : Int) < (nn : Int)) := by omega
      rw [List.drop_eq_nil_of_le (by rw [HNN.out]; omega), namesC] at hq
      subst hq
      have hR3 : lastC ln nn st ps q = R := HRS.out
      have HRT := hide1 hR3
      clear hJ hc hg ht1 hR3 HRS hlt hj HT1
      obtain ⟨bb, hbb⟩ : ∃ bb, (decide (0 ≤ st) && decide (st < (nn : Int))) = bb := ⟨_, rfl⟩
      have HWI := hide1 (within_at0 st (nn : Int) bb hbb)
      have hR4 := HRT.out
      unfold lastC at hR4
      rw [hbb] at hR4
      obtain ⟨⟨-, d1, d2, -⟩, -⟩ := HC.out.box.cells
      clear hbb
      cases bb with
      | false =>
        rw [if_pos rfl] at hR4
        go_wp2_with (first | (go_quiet ((go_at_call 56; exact Calls.quiet_of (HWI.out _)))) | (go_at_call 51; go_must (refine (Gs.fail_is _ _ _ _).mono ?_; rintro e w7 ⟨rfl, hk7⟩; have h9 : OutK w0 b (.slice la ln lc) (.slice na nn nc) (.slice pa pn pc) st m xP w R (thrown 63 0 ⟨#[115, 116, 97, 114, 116]⟩) w7 := outK_err hR4.symm (gtrans (gtrans HC.out.kept (drewN_kept _ _)) hk7) (HG.out.kept (gtrans (drewN_kept _ _) hk7)).1; unfold thrown at h9 ⊢)))
        exact ⟨rfl, h9⟩
      | true =>
        rw [if_neg (by decide)] at hR4
        obtain ⟨X3, hX3⟩ : ∃ X, prodsC ln nn 0 ps (-1) = X := ⟨_, rfl⟩
        rw [hX3] at hR4
        have HR4 := hide1 hR4
        have HXX := hide1 hX3
        clear hR4 hX3 HRT
        go_upto_region 14 with (go_quiet ((go_at_call 56; exact Calls.quiet_of (HWI.out _))))
        have HC4 := hide1 (HC.out.keep (drewN_kept wr nq))
        have HG4 := hide1 (HG.out.kept (drewN_kept wr nq))
        clear HC HG d1 d2
        generalize wr.drewN nq = W4 at HC4 HG4 ⊢
        have d3 := HC4.out.box.cells.1.2.2.2.1
        go_wp2_with fail
        go_loopw [6, 63] (fun v6 v63 wr => ∃ (k : Nat) (a : Int), v63 = .int .i64 (k : Int) ∧ v6 = .int .i64 a ∧ k ≤ pn ∧ -1 ≤ a ∧ a ≤ 1000 ∧ Hid (prodsC ln nn k (ps.drop k) a = X3 ∧ ChI w0 wr b (.slice la ln lc) (.slice na nn nc) (.slice pa pn pc) st q.1 q.2 m xQ1 ∧ GoK b m xP w xQ1 wr)) (fun _ v63 _ => pn - (intOf v63).toNat)
        case atStart => exact ⟨0, -1, rfl, rfl, Nat.zero_le _, by omega, by omega, HXX.out, HC4.out, HG4.out⟩
        case round =>
          clear HC4 HG4 HXX d3
          obtain ⟨k, a, rfl, rfl, hk, ha0, ha1, hK⟩ := hrel
          obtain ⟨hq, hc, hg⟩ := hK.out
          have HC := hide1 hc
          have HG := hide1 hg
          by_cases hlt : k < pn
          · have hkl : k < ps.length := by rw [HPN.out]; exact hlt
            obtain ⟨p, hxe⟩ : ∃ x, ps[k]'hkl = x := ⟨_, rfl⟩
            have hxi : ps[k]? = some p := by rw [List.getElem?_eq_getElem hkl, hxe]
            rw [List.drop_eq_getElem_cons hkl, hxe, prodsC] at hq
            obtain ⟨cb, ob, ra, rc, hpa, k0, k1, hrt⟩ := prods_el (ProdsAt.keep HR3.out hc.kept) hxi
            subst hpa
            obtain ⟨Y, hY⟩ : ∃ Y, prodC ln nn (k : Int) p a = Y := ⟨_, rfl⟩
            rw [hY] at hq
            obtain ⟨rn, hrn⟩ : ∃ n, p.2.length = n := ⟨_, rfl⟩
            rw [hrn] at k1 hrt
            have HPD : Hid (∀ w, w.cell? ⟨b, 0, none⟩ = some (.slice la ln lc) → w.cell? ⟨b, 1, none⟩ = some (.slice na nn nc) → RightAt w (.slice ra rn rc) p.2 → Calls Tryz.prog 57 #[.pointer (some ⟨b, 0, none⟩), .int .i64 (k : Int), .agg #[.int .i64 p.1, .slice ra rn rc], .int .i64 a] w (OutU w Y)) := fun w c0 c1 hr => by
              rw [← hY]
              exact prod_is b la na ra ln lc nn nc rn rc (k : Int) p a ⟨ha0, by omega⟩ w c0 c1 hr
            have HYO : Hid (∀ u, Y = .ok u → 0 ≤ p.1 ∧ p.1 < (nn : Int)) := fun u h => prodC_ok (hY.trans h)
            have HQ := hide1 hq
            have eK : (k : Int) < (pn : Int) := by omega
            have gjc : (k : Int) < (pc : Int) := by omega
            have HI2 := hide1 hlt
            obtain ⟨pl, row⟩ := p
            dsimp only at HPD HYO HQ k0 k1 hrt hrn
            have HRT2 := hide1 (RightAt.keep hrt ((Kept.refl wr).alloc #[.int .i64 pl, .slice ra rn rc] 66))
            have HCA := hide1 (HC.out.keep ((Kept.refl wr).alloc #[.int .i64 pl, .slice ra rn rc] 66))
            have HGA := hide1 (HG.out.kept ((Kept.refl wr).alloc #[.int .i64 pl, .slice ra rn rc] 66))
            have HPB : Hid (PrB (wr.alloc (.cells #[.int .i64 pl, .slice ra rn rc] 66)) wr.heap.size pl (.slice ra rn rc)) := heap_alloc_new wr _
            clear hK hq hc hg hlt hk hxe hxi hkl hY hrt hrn HC HG
            go_upto_region 17 with fail
            obtain ⟨g8, hg8⟩ : ∃ g, wr.heap.size = g := ⟨_, rfl⟩
            generalize wr.alloc (.cells #[.int .i64 pl, .slice ra rn rc] 66) = W2 at HCA HGA HPB HRT2 ⊢
            rw [hg8] at HPB ⊢
            clear hg8 k0 k1
            obtain ⟨s0, s1⟩ := HPB.out.facts
            go_wp2_with fail
            go_at_call 57
            refine (HPD.out _ HCA.out.box.cells.1.1 HCA.out.box.cells.1.2.1 HRT2.out).mono ?_
            intro e w3 h3
            rcases Y with f | u
            · obtain ⟨rfl, hk3⟩ := h3
              have hx1 : X3 = .error (f.1, f.2.1, f.2.2) := HQ.out.symm
              have h9 : OutK w0 b (.slice la ln lc) (.slice na nn nc) (.slice (some ⟨cb, ob, none⟩) pn pc) st m xP w R (thrown f.1 f.2.1 f.2.2) w3 := outK_err (show R = .error (f.1, f.2.1, f.2.2) from by rw [← HR4.out, hx1]; rfl) (gtrans HCA.out.kept hk3) (HGA.out.kept hk3).1
              clear hx1
              unfold thrown at h9 ⊢
              go_wp2_with fail
              exact ⟨rfl, h9⟩
            obtain ⟨rfl, hk3⟩ := h3
            have HC3 := hide1 (HCA.out.keep hk3)
            have HG3 := hide1 (HGA.out.kept hk3)
            obtain ⟨s0', -⟩ := (HPB.out.keep hk3).facts
            obtain ⟨y0, y1⟩ := HYO.out u rfl
            clear hk3 s0 s1
            go_wp2_with fail
            refine ⟨⟨k + 1, pl, by rfl, by rfl, HI2.out, by omega, by omega, HQ.out, HC3.out, HG3.out⟩, ?_⟩
            have := HI2.out
            simp [intOf]; omega
          have eK : ¬ ((k : Int) < (pn : Int)) := by omega
          rw [List.drop_eq_nil_of_le (by rw [HPN.out]; omega), prodsC] at hq
          subst hq
          have hR5 : (if a ≠ (nn : Int) - 1 then .error (65, (ps.length : Int), prodsW) else .ok q) = R := HR4.out
          rw [HPN.out] at hR5
          obtain ⟨⟨-, d1, -, d3, -⟩, -⟩ := HC.out.box.cells
          clear hK hc hg HR4 hlt hk
          by_cases hl : a = (nn : Int) - 1
          · rw [if_neg (by simpa using hl)] at hR5
            have h9 : OutK w0 b (.slice la ln lc) (.slice na nn nc) (.slice pa pn pc) st m xP w R (.returned (.tuple #[])) wr := outK_ok hR5.symm HC.out HG.out
            have H9 := hide1 h9
            subst hl
            clear h9 hR5
            go_wp2_with fail
            go_end0
            exact H9.out
          · rw [if_pos hl] at hR5
            have el : (a != (nn : Int) - 1) = true := by simpa using hl
            clear hl
            go_wp2_with (go_at_call 51; go_must (refine (Gs.fail_is _ _ _ _).mono ?_; rintro e w7 ⟨rfl, hk7⟩; have h9 : OutK w0 b (.slice la ln lc) (.slice na nn nc) (.slice pa pn pc) st m xP w R (thrown 65 (pn : Int) ⟨#[112, 114, 111, 100, 117, 99, 116, 105, 111, 110, 115]⟩) w7 := outK_err hR5.symm (gtrans HC.out.kept hk7) (HG.out.kept hk7).1; unfold thrown at h9 ⊢))
            exact ⟨rfl, h9⟩

end Gu
end Ex
end Go.Proofs.YtbnchnlogikecaaGreatDoor
