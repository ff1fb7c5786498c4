import Derived.Test.YtbnchnlogikecaaGreatDoorPGu2
import Derived.Test.YtbnchnlogikecaaGreatDoorPExKl
import Derived.Test.YtbnchnlogikecaaGreatDoorPSpSz2
namespace Go.Proofs.YtbnchnlogikecaaGreatDoor
open Go.RowKit
attribute [local go_sem] Oper.semAt_some
set_option linter.unusedVariables false
set_option linter.unusedSimpArgs false
set_option maxRecDepth 100000
set_option maxHeartbeats 8000000
namespace Ex
namespace Gu
open Sh Gs
abbrev CkS : Type := List ByteArray × List ByteArray
def rulesC : Nat → List LxM → CkS → Except Flt CkS
  | _, [], r => .ok r
  | i, x :: xs, r => (ruleC (i : Int) x r).bind fun r1 => rulesC (i + 1) xs r1
def namesC : Nat → List ByteArray → CkS → Except Flt CkS
  | _, [], r => .ok r
  | i, x :: xs, r => (nameC (i : Int) x namesW r).bind fun r1 => namesC (i + 1) xs r1
def prodsC (ln nn : Nat) : Nat → List ProdM → Int → Except Flt Int
  | _, [], a => .ok a
  | i, p :: ps, a => (prodC ln nn (i : Int) p a).bind fun _ => prodsC ln nn (i + 1) ps p.1
def lastC (ln nn : Nat) (st : Int) (ps : List ProdM) (r : CkS) : Except Flt CkS :=
  if (decide (0 ≤ st) && decide (st < (nn : Int))) = false then .error (63, 0, startW)
  else (prodsC ln nn 0 ps (-1)).bind fun a => if a ≠ (nn : Int) - 1 then .error (65, (ps.length : Int), prodsW) else .ok r
def checkC (sp : SpV) : Except Flt CkS :=
  (sizesC sp.lex.length sp.nam.length sp.prd).bind fun _ => (rulesC 0 sp.lex ([], [])).bind fun r1 => (namesC 0 sp.nam r1).bind fun r2 => lastC sp.lex.length sp.nam.length sp.start sp.prd r2
theorem nameC_ok {a : Int} {nm ls : ByteArray} {r r' : CkS} (h : nameC a nm ls r = .ok r') : r'.1.length = r.1.length + 1 ∧ r'.2 = r.2 := by
  unfold nameC at h
  split at h
  · cases h
  · split at h
    · cases h
    · cases h
      exact ⟨by rw [List.length_append]; rfl, rfl⟩
theorem ruleC_ok {a : Int} {x : LxM} {r r' : CkS} (h : ruleC a x r = .ok r') : r'.1.length = r.1.length + 1 ∧ r'.2.length = r.2.length + 1 := by
  unfold ruleC at h
  obtain ⟨r1, h1, h⟩ := bind_ok h
  obtain ⟨h2, h3⟩ := nameC_ok h1
  split at h
  · cases h
  · cases h
    exact ⟨h2, by rw [List.length_append, h3]; rfl⟩
theorem prodC_ok {ln nn : Nat} {a : Int} {p : ProdM} {ah : Int} {u : Unit} (h : prodC ln nn a p ah = .ok u) : 0 ≤ p.1 ∧ p.1 < (nn : Int) := by
  unfold prodC at h
  split at h
  · cases h
  · rename_i h1
    simp only [Bool.not_eq_false, Bool.and_eq_true, decide_eq_true_eq] at h1
    exact h1
theorem sizesC_ok {ln nn : Nat} {ps : List ProdM} {u : Unit} (h : sizesC ln nn ps = .ok u) : ln ≤ 64 ∧ nn ≤ 128 ∧ ps.length ≤ 512 := by
  unfold sizesC at h
  split at h
  · cases h
  · split at h
    · cases h
    · split at h
      · cases h
      · omega
theorem lex_el {w : World} {a : Option Addr} {n c : Nat} {l : List LxM} (h : SliceOf w 8 (LexE w) (.slice a n c) l) {i : Nat} {x : LxM} (hi : l[i]? = some x) : ∃ cb o ka kn kc, a = some ⟨cb, o, none⟩ ∧ (w.cell? ⟨cb, o + i * 8, none⟩ = some (.string x.1) ∧ w.cell? ⟨cb, o + i * 8 + 1, none⟩ = some (.bool x.2.1) ∧ w.cell? ⟨cb, o + i * 8 + 2, none⟩ = some (.int .i64 (kind x.2.2.2)) ∧ w.cell? ⟨cb, o + i * 8 + 3, none⟩ = some (.int .i64 (from_ x.2.2.2)) ∧ w.cell? ⟨cb, o + i * 8 + 4, none⟩ = some (.int .i64 (to_ x.2.2.2)) ∧ w.cell? ⟨cb, o + i * 8 + 5, none⟩ = some (.int .i64 (min_ x.2.2.2)) ∧ w.cell? ⟨cb, o + i * 8 + 6, none⟩ = some (.int .i64 (max_ x.2.2.2)) ∧ w.cell? ⟨cb, o + i * 8 + 7, none⟩ = some (.slice ka kn kc)) ∧ KidsAt (fun d => d < w.heap.size) w x.2.2.1 (kids x.2.2.2) (.slice ka kn kc) := by
  obtain ⟨cb, o, cs, e, _, _, hc, v', rfl, _, hk⟩ := SliceOf.el0 h hi
  obtain ⟨ka, kc, rfl⟩ := hk.form
  exact ⟨cb, o, ka, _, kc, e, ⟨hc 0 _ rfl, hc 1 _ rfl, hc 2 _ rfl, hc 3 _ rfl, hc 4 _ rfl, hc 5 _ rfl, hc 6 _ rfl, hc 7 _ rfl⟩, hk⟩
theorem names_el {w : World} {a : Option Addr} {n c : Nat} {l : List ByteArray} (h : NamesAt w (.slice a n c) l) {i : Nat} {x : ByteArray} (hi : l[i]? = some x) : ∃ cb o, a = some ⟨cb, o, none⟩ ∧ w.cell? ⟨cb, o + i, none⟩ = some (.string x) ∧ x.size ≤ 200000000000000 := by
  obtain ⟨cb, o, cs, e, _, _, hc, rfl, hs⟩ := SliceOf.el0 h hi
  have h1 := hc 0 _ rfl
  rw [Nat.mul_one] at h1
  exact ⟨cb, o, e, h1, hs⟩
theorem cwhole_is (w0 : World) (hP : PowAt w0) (b m : Nat) (la na pa : Option Addr) (ln lc nn nc pn pc : Nat) (sp : SpV) (xP : SlV) (w : World) (h : ChI w0 w b (.slice la ln lc) (.slice na nn nc) (.slice pa pn pc) sp.start [] [] m xP) (hr : SpR w0 (.slice la ln lc) (.slice na nn nc) (.slice pa pn pc) sp) :
    Calls Tryz.prog 42 #[.pointer (some ⟨b, 0, none⟩)] w (OutK w0 b (.slice la ln lc) (.slice na nn nc) (.slice pa pn pc) sp.start m xP w (checkC sp)) := by
  obtain ⟨R, hR⟩ : ∃ R, checkC sp = R := ⟨_, rfl⟩
  rw [hR]
  unfold checkC at hR
  obtain ⟨lx, nms, st, ps⟩ := sp
  dsimp only at hR h ⊢
  obtain ⟨hr1, hr2, hr3⟩ := hr
  dsimp only at hr1 hr2 hr3
  obtain ⟨hln, hlc, -⟩ := slice_n hr1
  obtain ⟨hnn, hnc, -⟩ := slice_n hr2
  obtain ⟨hpn, hpc, -⟩ := slice_n hr3
  rw [hln, hnn] at hR
  have HR1 := hide1 hr1
  have HR2 := hide1 hr2
  have HR3 := hide1 hr3
  have HLN := hide1 hln
  have HNN := hide1 hnn
  have HPN := hide1 hpn
  have HP := hide1 hP
  have HI := hide1 h
  obtain ⟨X0, hX0⟩ : ∃ X, sizesC ln nn ps = X := ⟨_, rfl⟩
  rw [hX0] at hR
  have HSZ := hide1 (sizes_is b la na pa ln lc nn nc pn pc ps w h.box.cells.1.1 h.box.cells.1.2.1 h.box.cells.1.2.2.2.1 (ProdsAt.keep hr3 h.kept))
  rw [hX0] at HSZ
  have HX0 : Hid (∀ u, X0 = .ok u → ln ≤ 64 ∧ nn ≤ 128 ∧ ps.length ≤ 512) := fun u h => sizesC_ok (hX0.trans h)
  have HR := hide1 hR
  clear hR hX0 hr1 hr2 hr3 hln hnn hpn hP h
  go_enter Tryz.func42, Tryz.ntmps42
  go_wp2_with fail
  go_at_call 53
  refine HSZ.out.mono ?_
  intro e w1 h1
  rcases X0 with f | u
  · obtain ⟨rfl, hk1⟩ := h1
    have h9 : OutK w0 b (.slice la ln lc) (.slice na nn nc) (.slice pa pn pc) st m xP w R (thrown f.1 f.2.1 f.2.2) w1 := outK_err (show R = .error (f.1, f.2.1, f.2.2) from HR.out.symm) (gtrans HI.out.kept hk1) ((GoK.refl b m xP w).kept hk1).1
    unfold thrown at h9 ⊢
    go_wp2_with fail
    exact ⟨rfl, h9⟩
  obtain ⟨rfl, hk1⟩ := h1
  obtain ⟨hln, hnn, hpn⟩ := HX0.out u rfl
  have hlI : (ln : Int) ≤ 64 := by omega
  have hnI : (nn : Int) ≤ 128 := by omega
  have hpI : (pn : Int) ≤ 512 := by have := HPN.out; omega
  have HI1 := hide1 (HI.out.keep hk1)
  have HG1 := hide1 ((GoK.refl b m xP w).kept hk1)
  obtain ⟨X1, hX1⟩ : ∃ X, rulesC 0 lx ([], []) = X := ⟨_, rfl⟩
  have hR1 : (X1.bind fun r1 => (namesC 0 nms r1).bind fun r2 => lastC ln nn st ps r2) = R := by rw [← hX1]; exact HR.out
  have HRR := hide1 hR1
  have HXX := hide1 hX1
  clear hk1 hln hnn hpn hX1 hR1 HR HX0 HSZ HI
  go_upto_region 1 with fail
  have d0 := HI1.out.box.cells.1.1
  go_wp2_with fail
  go_loopw [17] (fun v17 wr => ∃ i : Nat, v17 = .int .i64 (i : Int) ∧ i ≤ ln ∧ Hid (∃ (r : CkS) (xQ : SlV), rulesC i (lx.drop i) r = X1 ∧ ChI w0 wr b (.slice la ln lc) (.slice na nn nc) (.slice pa pn pc) st r.1 r.2 m xQ ∧ GoK b m xP w xQ wr ∧ r.1.length = i ∧ r.2.length = i)) (fun v17 _ => ln - (intOf v17).toNat)
  case atStart => exact ⟨0, rfl, Nat.zero_le _, ([], []), xP, HXX.out, HI1.out, HG1.out, rfl, rfl⟩
  case round =>
    clear d0 HI1 HG1 HXX
    obtain ⟨i, rfl, hi, hI⟩ := hrel
    obtain ⟨r, xQ, hq, hc, hg, ht1, ht2⟩ := hI.out
    have HC := hide1 hc
    have HG := hide1 hg
    have HT1 := hide1 ht1
    have HT2 := hide1 ht2
    by_cases hlt : i < ln
    · have hil : i < lx.length := by rw [HLN.out]; exact hlt
      obtain ⟨x, hxe⟩ : ∃ x, lx[i]'hil = x := ⟨_, rfl⟩
      have hxi : lx[i]? = some x := by rw [List.getElem?_eq_getElem hil, hxe]
      rw [List.drop_eq_getElem_cons hil, hxe, rulesC] at hq
      obtain ⟨cb, ob, ka, kn, kc, hla, ⟨k0, k1, k2, k3, k4, k5, k6, k7⟩, hkd⟩ := lex_el HR1.out hxi
      subst hla
      obtain ⟨Y, hY⟩ : ∃ Y, ruleC (i : Int) x r = Y := ⟨_, rfl⟩
      rw [hY] at hq
      have HRU : Hid (∀ w xQ, ChI w0 w b (.slice (some ⟨cb, ob, none⟩) ln lc) (.slice na nn nc) (.slice pa pn pc) st r.1 r.2 m xQ → Calls Tryz.prog 54 #[.pointer (some ⟨b, 0, none⟩), .int .i64 (i : Int), .agg #[.string x.1, .bool x.2.1, .int .i64 (kind x.2.2.2), .int .i64 (from_ x.2.2.2), .int .i64 (to_ x.2.2.2), .int .i64 (min_ x.2.2.2), .int .i64 (max_ x.2.2.2), .slice ka kn kc]] w (OutK w0 b (.slice (some ⟨cb, ob, none⟩) ln lc) (.slice na nn nc) (.slice pa pn pc) st m xQ w Y)) := fun w xQ h => by
        rw [← hY]
        exact crule_is w0 HP.out b _ _ _ st (i : Int) x ka kn kc r m xQ w h (by rw [HT1.out]; omega) (by rw [HT2.out]; omega) hkd
      have HYO : Hid (∀ r1, Y = .ok r1 → r1.1.length = i + 1 ∧ r1.2.length = i + 1) := fun r1 h => by
        have := ruleC_ok (hY.trans h)
        rw [HT1.out, HT2.out] at this
        exact this
      have HQ := hide1 hq
      have eI : (i : Int) < (ln : Int) := by omega
      have gjc : (i : Int) < (lc : Int) := by omega
      have HI2 := hide1 hlt
      have k0 := grown_cell HC.out.kept k0
      have k1 := grown_cell HC.out.kept k1
      have k2 := grown_cell HC.out.kept k2
      have k3 := grown_cell HC.out.kept k3
      have k4 := grown_cell HC.out.kept k4
      have k5 := grown_cell HC.out.kept k5
      have k6 := grown_cell HC.out.kept k6
      have k7 := grown_cell HC.out.kept k7
      obtain ⟨nm, tr, n, pt⟩ := x
      dsimp only at HRU k0 k1 k2 k3 k4 k5 k6
      obtain ⟨⟨e0, hE0⟩, ⟨e1, hE1⟩, ⟨e2, hE2⟩, ⟨e3, hE3⟩, ⟨e4, hE4⟩⟩ : (∃ x, kind pt = x) ∧ (∃ x, from_ pt = x) ∧ (∃ x, to_ pt = x) ∧ (∃ x, min_ pt = x) ∧ (∃ x, max_ pt = x) := ⟨⟨_, rfl⟩, ⟨_, rfl⟩, ⟨_, rfl⟩, ⟨_, rfl⟩, ⟨_, rfl⟩⟩
      rw [hE0, hE1, hE2, hE3, hE4] at HRU
      rw [hE0] at k2
      rw [hE1] at k3
      rw [hE2] at k4
      rw [hE3] at k5
      rw [hE4] at k6
      have HCA := hide1 (HC.out.keep ((Kept.refl wr).alloc #[.string nm, .bool tr, .int .i64 e0, .int .i64 e1, .int .i64 e2, .int .i64 e3, .int .i64 e4, .slice ka kn kc] 72))
      have HGA := hide1 (HG.out.kept ((Kept.refl wr).alloc #[.string nm, .bool tr, .int .i64 e0, .int .i64 e1, .int .i64 e2, .int .i64 e3, .int .i64 e4, .slice ka kn kc] 72))
      have HBA : Hid ((wr.alloc (.cells #[.string nm, .bool tr, .int .i64 e0, .int .i64 e1, .int .i64 e2, .int .i64 e3, .int .i64 e4, .slice ka kn kc] 72)).heap[wr.heap.size]? = some (.cells #[.string nm, .bool tr, .int .i64 e0, .int .i64 e1, .int .i64 e2, .int .i64 e3, .int .i64 e4, .slice ka kn kc] 72 (0, 0))) := heap_alloc_new wr _
      clear hI hq hc hg ht1 ht2 hlt hi hxe hxi hil hkd hY hE0 hE1 hE2 hE3 hE4 HC HG
      go_upto_region 4 with fail
      obtain ⟨g3, hg3⟩ : ∃ g, wr.heap.size = g := ⟨_, rfl⟩
      generalize wr.alloc (.cells #[.string nm, .bool tr, .int .i64 e0, .int .i64 e1, .int .i64 e2, .int .i64 e3, .int .i64 e4, .slice ka kn kc] 72) = W2 at HCA HGA HBA ⊢
      rw [hg3] at HBA ⊢
      clear hg3 k0 k1 k2 k3 k4 k5 k6 k7
      have k0 : W2.cell? ⟨g3, 0, none⟩ = some (.string nm) := by have := HBA.out; simp [World.cell?, this]
      have k1 : W2.cell? ⟨g3, 1, none⟩ = some (.bool tr) := by have := HBA.out; simp [World.cell?, this]
      have k2 : W2.cell? ⟨g3, 2, none⟩ = some (.int .i64 e0) := by have := HBA.out; simp [World.cell?, this]
      have k3 : W2.cell? ⟨g3, 3, none⟩ = some (.int .i64 e1) := by have := HBA.out; simp [World.cell?, this]
      have k4 : W2.cell? ⟨g3, 4, none⟩ = some (.int .i64 e2) := by have := HBA.out; simp [World.cell?, this]
      have k5 : W2.cell? ⟨g3, 5, none⟩ = some (.int .i64 e3) := by have := HBA.out; simp [World.cell?, this]
      have k6 : W2.cell? ⟨g3, 6, none⟩ = some (.int .i64 e4) := by have := HBA.out; simp [World.cell?, this]
      have k7 : W2.cell? ⟨g3, 7, none⟩ = some (.slice ka kn kc) := by have := HBA.out; simp [World.cell?, this]
      go_wp2_with fail
      go_at_call 54
      refine (HRU.out _ _ HCA.out).mono ?_
      intro e w3 h3
      rcases Y with f | r1
      · obtain ⟨rfl, hk3, hkt3⟩ := h3
        have hx1 : X1 = .error (f.1, f.2.1, f.2.2) := HQ.out.symm
        have h9 : OutK w0 b (.slice (some ⟨cb, ob, none⟩) ln lc) (.slice na nn nc) (.slice pa pn pc) st m xP w R (thrown f.1 f.2.1 f.2.2) w3 := outK_err (show R = .error (f.1, f.2.1, f.2.2) from by rw [← HRR.out, hx1]; rfl) hk3 (HGA.out.kt hkt3)
        clear hx1
        unfold thrown at h9 ⊢
        go_wp2_with fail
        exact ⟨rfl, h9⟩
      obtain ⟨rfl, xQ2, hc3, hg3⟩ := h3
      have HC3 := hide1 hc3
      have HG3 := hide1 (HGA.out.trans hg3)
      have HY1 := hide1 (HYO.out r1 rfl)
      clear hc3 hg3 k0 k1 k2 k3 k4 k5 k6 k7
      go_wp2_with fail
      refine ⟨⟨i + 1, by rfl, HI2.out, r1, xQ2, HQ.out, HC3.out, HG3.out, HY1.out.1, HY1.out.2⟩, ?_⟩
      have := HI2.out
      simp [intOf]; omega
    have eI : ¬ ((i : Int) < (ln : Int)) := by omega
    rw [List.drop_eq_nil_of_le (by rw [HLN.out]; omega), rulesC] at hq
    subst hq
    have hil : i = ln := by omega
    obtain ⟨X2, hX2⟩ : ∃ X, namesC 0 nms r = X := ⟨_, rfl⟩
    have hR1 : (X2.bind fun r2 => lastC ln nn st ps r2) = R := by rw [← hX2]; exact HRR.out
    have HRS := hide1 hR1
    have HXX := hide1 hX2
    have HIL := hide1 (show i ≤ 64 by omega)
    clear hI hc hg ht1 ht2 hR1 hX2 HRR hil hlt hi
    have d1 := HC.out.box.cells.1.2.1
    go_wp2_with fail
    clear d1 eI
    go_loopw [33] (fun v33 wr => ∃ j : Nat, v33 = .int .i64 (j : Int) ∧ j ≤ nn ∧ Hid (∃ (q : CkS) (xQ : SlV), namesC j (nms.drop j) q = X2 ∧ ChI w0 wr b (.slice la ln lc) (.slice na nn nc) (.slice pa pn pc) st q.1 q.2 m xQ ∧ GoK b m xP w xQ wr ∧ q.1.length = i + j)) (fun v33 _ => nn - (intOf v33).toNat)
    case atStart => exact ⟨0, rfl, Nat.zero_le _, r, xQ, HXX.out, HC.out, HG.out, HT1.out⟩
    case round =>
      clear HC HG HXX HT1 HT2
      obtain ⟨j, rfl, hj, hJ⟩ := hrel
      obtain ⟨q, xQ1, hq, hc, hg, ht1⟩ := hJ.out
      have HC := hide1 hc
      have HG := hide1 hg
      have HT1 := hide1 ht1
      by_cases hlt : j < nn
      · have hjl : j < nms.length := by rw [HNN.out]; exact hlt
        obtain ⟨nm, hxe⟩ : ∃ x, nms[j]'hjl = x := ⟨_, rfl⟩
        have hxi : nms[j]? = some nm := by rw [List.getElem?_eq_getElem hjl, hxe]
        rw [List.drop_eq_getElem_cons hjl, hxe, namesC] at hq
        obtain ⟨cb, ob, hna, k0, -⟩ := names_el HR2.out hxi
        subst hna
        obtain ⟨Y, hY⟩ : ∃ Y, nameC (j : Int) nm namesW q = Y := ⟨_, rfl⟩
        rw [hY] at hq
        have HNA : Hid (∀ w xQ, ChI w0 w b (.slice la ln lc) (.slice (some ⟨cb, ob, none⟩) nn nc) (.slice pa pn pc) st q.1 q.2 m xQ → Calls Tryz.prog 55 #[.pointer (some ⟨b, 0, none⟩), .int .i64 (j : Int), .string nm, .string ⟨#[110, 97, 109, 101, 115]⟩] w (OutK w0 b (.slice la ln lc) (.slice (some ⟨cb, ob, none⟩) nn nc) (.slice pa pn pc) st m xQ w Y)) := fun w xQ h => by
          rw [← hY]
          exact name_is w0 b _ _ _ st (j : Int) nm namesW q m xQ w h (by rw [HT1.out]; have := HIL.out; omega)
        have HYO : Hid (∀ r1, Y = .ok r1 → r1.1.length = i + (j + 1)) := fun r1 h => by
          have := (nameC_ok (hY.trans h)).1
          rw [HT1.out] at this
          omega
        have HQ := hide1 hq
        have eJ : (j : Int) < (nn : Int) := by omega
        have gjc : (j : Int) < (nc : Int) := by omega
        have HI2 := hide1 hlt
        have k0 := grown_cell HC.out.kept k0
        clear hJ hq hc hg ht1 hlt hj hxe hxi hjl hY
        go_wp2_with fail
        go_at_call 55
        refine (HNA.out _ _ HC.out).mono ?_
        intro e w3 h3
        rcases Y with f | r1
        · obtain ⟨rfl, hk3, hkt3⟩ := h3
          have hx1 : X2 = .error (f.1, f.2.1, f.2.2) := HQ.out.symm
          have h9 : OutK w0 b (.slice la ln lc) (.slice (some ⟨cb, ob, none⟩) nn nc) (.slice pa pn pc) st m xP w R (thrown f.1 f.2.1 f.2.2) w3 := outK_err (show R = .error (f.1, f.2.1, f.2.2) from by rw [← HRS.out, hx1]; rfl) hk3 (HG.out.kt hkt3)
          clear hx1
          unfold thrown at h9 ⊢
          go_wp2_with fail
          exact ⟨rfl, h9⟩
        obtain ⟨rfl, xQ2, hc3, hg3⟩ := h3
        have HC3 := hide1 hc3
        have HG3 := hide1 (HG.out.trans hg3)
        have HY1 := hide1 (HYO.out r1 rfl)
        clear hc3 hg3 k0
        go_wp2_with fail
        refine ⟨⟨j + 1, by rfl, HI2.out, r1, xQ2, HQ.out, HC3.out, HG3.out, HY1.out⟩, ?_⟩
        have := HI2.out
        simp [intOf]; omega
      have eJ : ¬ ((j : Int) < (nn : Int)) := by omega
      rw [List.drop_eq_nil_of_le (by rw [HNN.out]; omega), namesC] at hq
      subst hq
      have hR3 : lastC ln nn st ps q = R := HRS.out
      have HRT := hide1 hR3
      clear hJ hc hg ht1 hR3 HRS hlt hj HT1
      obtain ⟨bb, hbb⟩ : ∃ bb, (decide (0 ≤ st) && decide (st < (nn : Int))) = bb := ⟨_, rfl⟩
      have HWI := hide1 (within_at0 st (nn : Int) bb hbb)
      have hR4 := HRT.out
      unfold lastC at hR4
      rw [hbb] at hR4
      obtain ⟨⟨-, d1, d2, -⟩, -⟩ := HC.out.box.cells
      clear hbb
      cases bb with
      | false =>
        rw [if_pos rfl] at hR4
        go_wp2_with (first | (go_quiet ((go_at_call 56; exact Calls.quiet_of (HWI.out _)))) | (go_at_call 51; go_must (refine (Gs.fail_is _ _ _ _).mono ?_; rintro e w7 ⟨rfl, hk7⟩; have h9 : OutK w0 b (.slice la ln lc) (.slice na nn nc) (.slice pa pn pc) st m xP w R (thrown 63 0 ⟨#[115, 116, 97, 114, 116]⟩) w7 := outK_err hR4.symm (gtrans (gtrans HC.out.kept (drewN_kept _ _)) hk7) (HG.out.kept (gtrans (drewN_kept _ _) hk7)).1; unfold thrown at h9 ⊢)))
        exact ⟨rfl, h9⟩
      | true =>
        rw [if_neg (by decide)] at hR4
        obtain ⟨X3, hX3⟩ : ∃ X, prodsC ln nn 0 ps (-1) = X := ⟨_, rfl⟩
        rw [hX3] at hR4
        have HR4 := hide1 hR4
        have HXX := hide1 hX3
        clear hR4 hX3 HRT
        go_upto_region 14 with (go_quiet ((go_at_call 56; exact Calls.quiet_of (HWI.out _))))
        have HC4 := hide1 (HC.out.keep (drewN_kept wr nq))
        have HG4 := hide1 (HG.out.kept (drewN_kept wr nq))
        clear HC HG d1 d2
        generalize wr.drewN nq = W4 at HC4 HG4 ⊢
        have d3 := HC4.out.box.cells.1.2.2.2.1
        go_wp2_with fail
        go_loopw [6, 63] (fun v6 v63 wr => ∃ (k : Nat) (a : Int), v63 = .int .i64 (k : Int) ∧ v6 = .int .i64 a ∧ k ≤ pn ∧ -1 ≤ a ∧ a ≤ 1000 ∧ Hid (prodsC ln nn k (ps.drop k) a = X3 ∧ ChI w0 wr b (.slice la ln lc) (.slice na nn nc) (.slice pa pn pc) st q.1 q.2 m xQ1 ∧ GoK b m xP w xQ1 wr)) (fun _ v63 _ => pn - (intOf v63).toNat)
        case atStart => exact ⟨0, -1, rfl, rfl, Nat.zero_le _, by omega, by omega, HXX.out, HC4.out, HG4.out⟩
        case round =>
          clear HC4 HG4 HXX d3
          obtain ⟨k, a, rfl, rfl, hk, ha0, ha1, hK⟩ := hrel
          obtain ⟨hq, hc, hg⟩ := hK.out
          have HC := hide1 hc
          have HG := hide1 hg
          by_cases hlt : k < pn
          · have hkl : k < ps.length := by rw [HPN.out]; exact hlt
            obtain ⟨p, hxe⟩ : ∃ x, ps[k]'hkl = x := ⟨_, rfl⟩
            have hxi : ps[k]? = some p := by rw [List.getElem?_eq_getElem hkl, hxe]
            rw [List.drop_eq_getElem_cons hkl, hxe, prodsC] at hq
            obtain ⟨cb, ob, ra, rc, hpa, k0, k1, hrt⟩ := prods_el (ProdsAt.keep HR3.out hc.kept) hxi
            subst hpa
            obtain ⟨Y, hY⟩ : ∃ Y, prodC ln nn (k : Int) p a = Y := ⟨_, rfl⟩
            rw [hY] at hq
            obtain ⟨rn, hrn⟩ : ∃ n, p.2.length = n := ⟨_, rfl⟩
            rw [hrn] at k1 hrt
            have HPD : Hid (∀ w, w.cell? ⟨b, 0, none⟩ = some (.slice la ln lc) → w.cell? ⟨b, 1, none⟩ = some (.slice na nn nc) → RightAt w (.slice ra rn rc) p.2 → Calls Tryz.prog 57 #[.pointer (some ⟨b, 0, none⟩), .int .i64 (k : Int), .agg #[.int .i64 p.1, .slice ra rn rc], .int .i64 a] w (OutU w Y)) := fun w c0 c1 hr => by
              rw [← hY]
              exact prod_is b la na ra ln lc nn nc rn rc (k : Int) p a ⟨ha0, by omega⟩ w c0 c1 hr
            have HYO : Hid (∀ u, Y = .ok u → 0 ≤ p.1 ∧ p.1 < (nn : Int)) := fun u h => prodC_ok (hY.trans h)
            have HQ := hide1 hq
            have eK : (k : Int) < (pn : Int) := by omega
            have gjc : (k : Int) < (pc : Int) := by omega
            have HI2 := hide1 hlt
            obtain ⟨pl, row⟩ := p
            dsimp only at HPD HYO HQ k0 k1 hrt hrn
            have HRT2 := hide1 (RightAt.keep hrt ((Kept.refl wr).alloc #[.int .i64 pl, .slice ra rn rc] 66))
            have HCA := hide1 (HC.out.keep ((Kept.refl wr).alloc #[.int .i64 pl, .slice ra rn rc] 66))
            have HGA := hide1 (HG.out.kept ((Kept.refl wr).alloc #[.int .i64 pl, .slice ra rn rc] 66))
            have HPB : Hid (PrB (wr.alloc (.cells #[.int .i64 pl, .slice ra rn rc] 66)) wr.heap.size pl (.slice ra rn rc)) := heap_alloc_new wr _
            clear hK hq hc hg hlt hk hxe hxi hkl hY hrt hrn HC HG
            go_upto_region 17 with fail
            obtain ⟨g8, hg8⟩ : ∃ g, wr.heap.size = g := ⟨_, rfl⟩
            generalize wr.alloc (.cells #[.int .i64 pl, .slice ra rn rc] 66) = W2 at HCA HGA HPB HRT2 ⊢
            rw [hg8] at HPB ⊢
            clear hg8 k0 k1
            obtain ⟨s0, s1⟩ := HPB.out.facts
            go_wp2_with fail
            go_at_call 57
            refine (HPD.out _ HCA.out.box.cells.1.1 HCA.out.box.cells.1.2.1 HRT2.out).mono ?_
            intro e w3 h3
            rcases Y with f | u
            · obtain ⟨rfl, hk3⟩ := h3
              have hx1 : X3 = .error (f.1, f.2.1, f.2.2) := HQ.out.symm
              have h9 : OutK w0 b (.slice la ln lc) (.slice na nn nc) (.slice (some ⟨cb, ob, none⟩) pn pc) st m xP w R (thrown f.1 f.2.1 f.2.2) w3 := outK_err (show R = .error (f.1, f.2.1, f.2.2) from by rw [← HR4.out, hx1]; rfl) (gtrans HCA.out.kept hk3) (HGA.out.kept hk3).1
              clear hx1
              unfold thrown at h9 ⊢
              go_wp2_with fail
              exact ⟨rfl, h9⟩
            obtain ⟨rfl, hk3⟩ := h3
            have HC3 := hide1 (HCA.out.keep hk3)
            have HG3 := hide1 (HGA.out.kept hk3)
            obtain ⟨s0', -⟩ := (HPB.out.keep hk3).facts
            obtain ⟨y0, y1⟩ := HYO.out u rfl
            clear hk3 s0 s1
            go_wp2_with fail
            refine ⟨⟨k + 1, pl, by rfl, by rfl, HI2.out, by omega, by omega, HQ.out, HC3.out, HG3.out⟩, ?_⟩
            have := HI2.out
            simp [intOf]; omega
          have eK : ¬ ((k : Int) < (pn : Int)) := by omega
          rw [List.drop_eq_nil_of_le (by rw [HPN.out]; omega), prodsC] at hq
          subst hq
          have hR5 : (if a ≠ (nn : Int) - 1 then .error (65, (ps.length : Int), prodsW) else .ok q) = R := HR4.out
          rw [HPN.out] at hR5
          obtain ⟨⟨-, d1, -, d3, -⟩, -⟩ := HC.out.box.cells
          clear hK hc hg HR4 hlt hk
          by_cases hl : a = (nn : Int) - 1
          · rw [if_neg (by simpa using hl)] at hR5
            have h9 : OutK w0 b (.slice la ln lc) (.slice na nn nc) (.slice pa pn pc) st m xP w R (.returned (.tuple #[])) wr := outK_ok hR5.symm HC.out HG.out
            have H9 := hide1 h9
            subst hl
            clear h9 hR5
            go_wp2_with fail
            go_end0
            exact H9.out
          · rw [if_pos hl] at hR5
            have el : (a != (nn : Int) - 1) = true := by simpa using hl
            clear hl
            go_wp2_with (go_at_call 51; go_must (refine (Gs.fail_is _ _ _ _).mono ?_; rintro e w7 ⟨rfl, hk7⟩; have h9 : OutK w0 b (.slice la ln lc) (.slice na nn nc) (.slice pa pn pc) st m xP w R (thrown 65 (pn : Int) ⟨#[112, 114, 111, 100, 117, 99, 116, 105, 111, 110, 115]⟩) w7 := outK_err hR5.symm (gtrans HC.out.kept hk7) (HG.out.kept hk7).1; unfold thrown at h9 ⊢))
            exact ⟨rfl, h9⟩
end Gu
end Ex
end Go.Proofs.YtbnchnlogikecaaGreatDoor
namespace Go.Proofs.YtbnchnlogikecaaGreatDoor
open Go.RowKit
attribute [local go_sem] Oper.semAt_some
set_option linter.unusedVariables false
set_option linter.unusedSimpArgs false
set_option maxRecDepth 100000
set_option maxHeartbeats 2000000
namespace Ex
namespace Gu
open Sh Gs
theorem sym_neq (a b : Int) (w : World) : (binOp .neq 77 (.agg #[.int .i64 a, .int .i64 b]) (.agg #[.int .i64 a, .int .i64 b])).run Tryz.prog w = .ok (.bool false) w := by
  have ht : Tryz.prog.underlying 77 = some (.struct (Tryz.prog.fieldsOf 77)) := by kernel_rfl
  have hp : Tryz.prog.stoodInHeld 77 = false := by kernel_rfl
  have hf : ((Tryz.prog.fieldsOf 77).toList.map fun f => (f.name, f.type, f.offset)) = [("Kind", 3, 0), ("N", 3, 1)] := by kernel_rfl
  have hi : Tryz.prog.underlying 3 = some (.int .i64) := by kernel_rfl
  rw [run_neq_struct, run_equalIn_struct w 9999 _ _ _ ht hp]
  obtain ⟨fs, hfs⟩ : ∃ fs, (Tryz.prog.fieldsOf 77).toList = fs := ⟨_, rfl⟩
  rw [hfs] at hf ⊢
  match fs, hf with
  | [f0, f1], hf =>
    simp only [List.map_cons, List.map_nil, List.cons.injEq, Prod.mk.injEq, and_true] at hf
    obtain ⟨⟨n0, t0, o0⟩, n1, t1, o1⟩ := hf
    have hpart0 : ∀ (x y : Value) (w : World), (part 3 #[x, y] 0).run Tryz.prog w = .ok x w := by
      intro x y w
      go_simp
    have hpart1 : ∀ (x y : Value) (w : World), (part 3 #[x, y] 1).run Tryz.prog w = .ok y w := by
      intro x y w
      go_simp
    simp only [Op.eqFields, n0, t0, o0, n1, t1, o1, Sem.run_bind, Sem.run_ite, hpart0, hpart1, Result.andThen_ok, run_equalIn_int w _ _ _ _ _ _ hi]
    simp
theorem texts_is (a a' : Option Addr) (n c c' : Nat) (ns : List ByteArray) (w : World) (h : NamesAt w (.slice a n c) ns) (h' : NamesAt w (.slice a' n c') ns) :
    Calls Tryz.prog 18 #[.slice a n c, .slice a' n c'] w fun e w' => e = .returned (.bool true) ∧ Kept w w' := by
  obtain ⟨hn, hc, hl⟩ := slice_n h
  obtain ⟨_, hc', _⟩ := slice_n h'
  have HN := hide1 hn
  have H := hide1 h
  have H' := hide1 h'
  have gl : (n : Int) ≤ 17592186044416 := by omega
  have gc : (n : Int) ≤ (c : Int) := by omega
  have gc' : (n : Int) ≤ (c' : Int) := by omega
  clear h h' hn hc hl hc'
  go_enter Tryz.func18, Tryz.ntmps18
  go_wp2_with fail
  go_loopw [5] (fun i wr => ∃ j : Nat, i = .int .i64 (j : Int) ∧ j ≤ n ∧ Hid (Kept w wr)) (fun i _ => n - (intOf i).toNat)
  case atStart => exact ⟨0, rfl, Nat.zero_le _, Kept.refl _⟩
  case round =>
    obtain ⟨j, rfl, hj, HKr⟩ := hrel
    by_cases hlt : (j : Int) < (n : Int)
    · obtain ⟨x, hx⟩ : ∃ x, ns[j]? = some x := ⟨_, List.getElem?_eq_getElem (by have := HN.out; omega)⟩
      obtain ⟨cb, o, ea, g0, gs⟩ := names_el (H.out.keep HKr.out) hx
      obtain ⟨cb', o', ea', g0', _⟩ := names_el (H'.out.keep HKr.out) hx
      subst ea ea'
      clear hx
      go_wp2_with fail
      go_quiet (fail)
      have HK6 := hide1 (gtrans HKr.out (drewN_kept wr nq))
      go_wp2_with fail
      go_roundw
      case rel => exact ⟨j + 1, by go_num, by omega, HK6⟩
      case measure => simp [intOf]; omega
    · go_wp2_with fail
      go_ret
      exact ⟨rfl, HKr.out⟩
end Gu
end Ex
end Go.Proofs.YtbnchnlogikecaaGreatDoor
namespace Go.Proofs.YtbnchnlogikecaaGreatDoor
open Go.RowKit
attribute [local go_sem] Oper.semAt_some
set_option linter.unusedVariables false
set_option linter.unusedSimpArgs false
set_option maxRecDepth 100000
set_option maxHeartbeats 8000000
namespace Ex
namespace Gu
open Sh Gs
def SpB (w : World) (g : Nat) (x0 x1 x2 x3 : Value) : Prop := w.heap[g]? = some (.cells #[x0, x1, x2, x3] 27 (0, 0))
theorem SpB.facts {w : World} {g : Nat} {x0 x1 x2 x3 : Value} (h : SpB w g x0 x1 x2 x3) : (w.cell? ⟨g, 0, none⟩ = some x0 ∧ w.cell? ⟨g, 1, none⟩ = some x1 ∧ w.cell? ⟨g, 2, none⟩ = some x2 ∧ w.cell? ⟨g, 3, none⟩ = some x3) ∧ (∀ o, w.frozen? ⟨g, o, none⟩ = false) ∧ g < w.heap.size := by
  unfold SpB at h
  refine ⟨⟨?_, ?_, ?_, ?_⟩, fun o => ?_, (Array.getElem?_eq_some_iff.1 h).1⟩ <;> simp [World.cell?, World.frozen?, h]
theorem SpB.keep {w w' : World} {g : Nat} {x0 x1 x2 x3 : Value} (h : SpB w g x0 x1 x2 x3) (hk : Kept w w') : SpB w' g x0 x1 x2 x3 := (hk.2.2.2.2 g (Array.getElem?_eq_some_iff.1 h).1).trans h
theorem SpB.new (w : World) (x0 x1 x2 x3 : Value) : SpB (w.alloc (.cells #[x0, x1, x2, x3] 27)) w.heap.size x0 x1 x2 x3 := heap_alloc_new w _
theorem SpB.next (w : World) (o : Obj) (x0 x1 x2 x3 : Value) : SpB ((w.alloc o).alloc (.cells #[x0, x1, x2, x3] 27)) (w.heap.size + 1) x0 x1 x2 x3 := by
  have h := SpB.new (w.alloc o) x0 x1 x2 x3
  rw [World.size_alloc] at h
  exact h
def LxB (w : World) (g : Nat) (nm : ByteArray) (tr : Bool) (kp fp tp mp xp : Int) (v : Value) : Prop := w.heap[g]? = some (.cells #[.string nm, .bool tr, .int .i64 kp, .int .i64 fp, .int .i64 tp, .int .i64 mp, .int .i64 xp, v] 72 (0, 0))
theorem LxB.facts {w : World} {g : Nat} {nm : ByteArray} {tr : Bool} {kp fp tp mp xp : Int} {v : Value} (h : LxB w g nm tr kp fp tp mp xp v) : (w.cell? ⟨g, 0, none⟩ = some (.string nm) ∧ w.cell? ⟨g, 1, none⟩ = some (.bool tr) ∧ w.cell? ⟨g, 2, none⟩ = some (.int .i64 kp) ∧ w.cell? ⟨g, 3, none⟩ = some (.int .i64 fp) ∧ w.cell? ⟨g, 4, none⟩ = some (.int .i64 tp) ∧ w.cell? ⟨g, 5, none⟩ = some (.int .i64 mp) ∧ w.cell? ⟨g, 6, none⟩ = some (.int .i64 xp) ∧ w.cell? ⟨g, 7, none⟩ = some v) ∧ (∀ o, w.frozen? ⟨g, o, none⟩ = false) ∧ g < w.heap.size := by
  unfold LxB at h
  refine ⟨⟨?_, ?_, ?_, ?_, ?_, ?_, ?_, ?_⟩, fun o => ?_, (Array.getElem?_eq_some_iff.1 h).1⟩ <;> simp [World.cell?, World.frozen?, h]
theorem LxB.keep {w w' : World} {g : Nat} {nm : ByteArray} {tr : Bool} {kp fp tp mp xp : Int} {v : Value} (h : LxB w g nm tr kp fp tp mp xp v) (hk : Kept w w') : LxB w' g nm tr kp fp tp mp xp v := (hk.2.2.2.2 g (Array.getElem?_eq_some_iff.1 h).1).trans h
theorem LxB.new (w : World) (nm : ByteArray) (tr : Bool) (kp fp tp mp xp : Int) (v : Value) : LxB (w.alloc (.cells #[.string nm, .bool tr, .int .i64 kp, .int .i64 fp, .int .i64 tp, .int .i64 mp, .int .i64 xp, v] 72)) w.heap.size nm tr kp fp tp mp xp v := heap_alloc_new w _
def PdB (w : World) (g : Nat) (l : Int) (v : Value) : Prop := w.heap[g]? = some (.cells #[.int .i64 l, v] 66 (0, 0))
theorem PdB.facts {w : World} {g : Nat} {l : Int} {v : Value} (h : PdB w g l v) : (w.cell? ⟨g, 0, none⟩ = some (.int .i64 l) ∧ w.cell? ⟨g, 1, none⟩ = some v) ∧ (∀ o, w.frozen? ⟨g, o, none⟩ = false) ∧ g < w.heap.size := by
  unfold PdB at h
  refine ⟨⟨?_, ?_⟩, fun o => ?_, (Array.getElem?_eq_some_iff.1 h).1⟩ <;> simp [World.cell?, World.frozen?, h]
theorem PdB.keep {w w' : World} {g : Nat} {l : Int} {v : Value} (h : PdB w g l v) (hk : Kept w w') : PdB w' g l v := (hk.2.2.2.2 g (Array.getElem?_eq_some_iff.1 h).1).trans h
theorem PdB.new (w : World) (l : Int) (v : Value) : PdB (w.alloc (.cells #[.int .i64 l, v] 66)) w.heap.size l v := heap_alloc_new w _
theorem sym_el {w : World} {a : Option Addr} {n c : Nat} {l : List SymM} (h : RightAt w (.slice a n c) l) {i : Nat} {x : SymM} (hi : l[i]? = some x) : ∃ cb o, a = some ⟨cb, o, none⟩ ∧ w.cell? ⟨cb, o + i * 2, none⟩ = some (.int .i64 x.1) ∧ w.cell? ⟨cb, o + i * 2 + 1, none⟩ = some (.int .i64 x.2) := by
  obtain ⟨cb, o, cs, e, _, _, hc, rfl⟩ := SliceOf.el0 h hi
  exact ⟨cb, o, e, hc 0 _ rfl, hc 1 _ rfl⟩
theorem spSame_is (la na pa lb nb pb : Option Addr) (ln lc lc' nn nc nc' pn pc pc' : Nat) (sp : SpV) (w : World) (hA : SpR w (.slice la ln lc) (.slice na nn nc) (.slice pa pn pc) sp) (hB : SpR w (.slice lb ln lc') (.slice nb nn nc') (.slice pb pn pc') sp) :
    Calls Tryz.prog 14 #[.agg #[.slice la ln lc, .slice na nn nc, .int .i64 sp.start, .slice pa pn pc], .agg #[.slice lb ln lc', .slice nb nn nc', .int .i64 sp.start, .slice pb pn pc']] w fun e w' => e = .returned (.bool true) ∧ Kept w w' := by
  obtain ⟨hl1, hl2, hl3⟩ := slice_n hA.1
  obtain ⟨hn1, hn2, hn3⟩ := slice_n hA.2.1
  obtain ⟨hp1, hp2, hp3⟩ := slice_n hA.2.2
  obtain ⟨_, hl4, _⟩ := slice_n hB.1
  obtain ⟨_, hn4, _⟩ := slice_n hB.2.1
  obtain ⟨_, hp4, _⟩ := slice_n hB.2.2
  have HA := hide1 hA
  have HB := hide1 hB
  have HLN := hide1 hl1
  have HPN := hide1 hp1
  obtain ⟨st, hst⟩ : ∃ st, sp.start = st := ⟨_, rfl⟩
  rw [hst]
  have g1 : (ln : Int) ≤ 17592186044416 := by omega
  have g2 : (ln : Int) ≤ (lc : Int) := by omega
  have g3 : (ln : Int) ≤ (lc' : Int) := by omega
  have g4 : (nn : Int) ≤ 17592186044416 := by omega
  have g5 : (pn : Int) ≤ 17592186044416 := by omega
  have g6 : (pn : Int) ≤ (pc : Int) := by omega
  have g7 : (pn : Int) ≤ (pc' : Int) := by omega
  have HTX : Hid (∀ w1, Kept w w1 → Calls Tryz.prog 18 #[.slice na nn nc, .slice nb nn nc'] w1 fun e w' => e = .returned (.bool true) ∧ Kept w1 w') := fun w1 hk => texts_is na nb nn nc nc' sp.nam w1 (HA.out.2.1.keep hk) (HB.out.2.1.keep hk)
  clear hA hB hl1 hl2 hl3 hn1 hn2 hn3 hp1 hp2 hp3 hl4 hn4 hp4 hst
  go_enter Tryz.func14, Tryz.ntmps14
  obtain ⟨W, hW⟩ : ∃ W, (w.alloc (.cells #[.slice la ln lc, .slice na nn nc, .int .i64 st, .slice pa pn pc] 27)).alloc (.cells #[.slice lb ln lc', .slice nb nn nc', .int .i64 st, .slice pb pn pc'] 27) = W := ⟨_, rfl⟩
  have HWK : Hid (Kept w W) := by rw [← hW]; exact ((Kept.refl w).alloc _ _).alloc _ _
  have HBA : Hid (SpB W w.heap.size (.slice la ln lc) (.slice na nn nc) (.int .i64 st) (.slice pa pn pc)) := by rw [← hW]; exact (SpB.new w _ _ _ _).keep ((Kept.refl _).alloc _ _)
  have HBB : Hid (SpB W (w.heap.size + 1) (.slice lb ln lc') (.slice nb nn nc') (.int .i64 st) (.slice pb pn pc')) := by rw [← hW]; exact SpB.next w _ _ _ _ _
  have HWW := hide1 hW
  clear hW
  go_wp2_with (go_at_call 18; rw [HWW.out]; refine (HTX.out W HWK.out).mono ?_; rintro e w5 ⟨rfl, hk5⟩; have HK5 := hide1 hk5; clear hk5)
  have HW5 := hide1 (gtrans HWK.out HK5.out)
  have HA5 := hide1 (HBA.out.keep HK5.out)
  have HB5 := hide1 (HBB.out.keep HK5.out)
  obtain ⟨ga, hga⟩ : ∃ g, w.heap.size = g := ⟨_, rfl⟩
  rw [hga] at HA5 HB5 ⊢
  clear hga HBA HBB HWW HK5 HWK
  go_loopw [5] (fun i wr => ∃ j : Nat, i = .int .i64 (j : Int) ∧ j ≤ ln ∧ Hid (Kept w5 wr)) (fun i _ => ln - (intOf i).toNat)
  case atStart => exact ⟨0, rfl, Nat.zero_le _, Kept.refl _⟩
  case round =>
    obtain ⟨j, rfl, hj, HKr⟩ := hrel
    have HAr := hide1 (HA5.out.keep HKr.out)
    have HBr := hide1 (HB5.out.keep HKr.out)
    obtain ⟨⟨a0, a1, a2, a3⟩, -⟩ := HAr.out.facts
    obtain ⟨⟨b0, b1, b2, b3⟩, -⟩ := HBr.out.facts
    by_cases hlt : (j : Int) < (ln : Int)
    · obtain ⟨x, hx⟩ : ∃ x, sp.lex[j]? = some x := ⟨_, List.getElem?_eq_getElem (by have := HLN.out; omega)⟩
      obtain ⟨cb, o, ka, kn, kc, ea, ⟨q0, q1, q2, q3, q4, q5, q6, q7⟩, hka⟩ := lex_el (HA.out.keep (gtrans HW5.out HKr.out)).1 hx
      obtain ⟨cb', o', ka', kn', kc', ea', ⟨r0, r1, r2, r3, r4, r5, r6, r7⟩, hkb⟩ := lex_el (HB.out.keep (gtrans HW5.out HKr.out)).1 hx
      subst ea ea'
      obtain ⟨nm, tr, n, p⟩ := x
      dsimp only at q0 q1 q2 q3 q4 q5 q6 q7 r0 r1 r2 r3 r4 r5 r6 r7 hka hkb
      have HKA := hide1 hka
      have HKB := hide1 hkb
      obtain ⟨kp, hkp⟩ : ∃ z, kind p = z := ⟨_, rfl⟩
      obtain ⟨fp, hfp⟩ : ∃ z, from_ p = z := ⟨_, rfl⟩
      obtain ⟨tp, htp⟩ : ∃ z, to_ p = z := ⟨_, rfl⟩
      obtain ⟨mp, hmp⟩ : ∃ z, min_ p = z := ⟨_, rfl⟩
      obtain ⟨xp, hxp⟩ : ∃ z, max_ p = z := ⟨_, rfl⟩
      obtain ⟨sb, hsb⟩ : ∃ z, smallB p = z := ⟨_, rfl⟩
      have HSM : Hid (∀ w1 u, (∃ S, KidsAt S w1 n (kids p) u) → Calls Tryz.prog 31 #[.agg #[.int .i64 kp, .int .i64 fp, .int .i64 tp, .int .i64 mp, .int .i64 xp, u]] w1 fun e w' => e = .returned (.bool sb) ∧ Kept w1 w') := fun w1 u ⟨S, h⟩ => by
        have := small_is S n p u w1 h
        rw [valOf_eq, hkp, hfp, htp, hmp, hxp, hsb] at this
        exact this
      have HAL : Hid (∀ w1 u v, (∃ S, KidsAt S w1 n (kids p) u) → (∃ S, KidsAt S w1 n (kids p) v) → Calls Tryz.prog 33 #[.agg #[.int .i64 kp, .int .i64 fp, .int .i64 tp, .int .i64 mp, .int .i64 xp, u], .agg #[.int .i64 kp, .int .i64 fp, .int .i64 tp, .int .i64 mp, .int .i64 xp, v]] w1 fun e w' => e = .returned (.bool true) ∧ Kept w1 w') := fun w1 u v ⟨S, h⟩ ⟨S', h'⟩ => by
        have := alike_is S' S n p v u w1 h' h
        rw [valOf_eq, valOf_eq, hkp, hfp, htp, hmp, hxp] at this
        exact this
      rw [hkp] at q2 r2
      rw [hfp] at q3 r3
      rw [htp] at q4 r4
      rw [hmp] at q5 r5
      rw [hxp] at q6 r6
      clear hx hka hkb hkp hfp htp hmp hxp hsb
      go_upto_region 7 with fail
      have HKX : Hid (Kept wr (wr.alloc (.cells #[.string nm, .bool tr, .int .i64 kp, .int .i64 fp, .int .i64 tp, .int .i64 mp, .int .i64 xp, .slice ka kn kc] 72))) := (Kept.refl wr).alloc _ _
      have HX1 := hide1 (LxB.new wr nm tr kp fp tp mp xp (.slice ka kn kc))
      obtain ⟨wx, hwx⟩ : ∃ wx, wr.alloc (.cells #[.string nm, .bool tr, .int .i64 kp, .int .i64 fp, .int .i64 tp, .int .i64 mp, .int .i64 xp, .slice ka kn kc] 72) = wx := ⟨_, rfl⟩
      rw [hwx] at HKX HX1 ⊢
      obtain ⟨gx, hgx⟩ : ∃ g, wr.heap.size = g := ⟨_, rfl⟩
      rw [hgx] at HX1 ⊢
      clear hwx hgx q0 q1 q2 q3 q4 q5 q6 q7 a0 a1 a2 a3 b1 b2 b3
      replace b0 := grown_cell HKX.out b0
      replace r0 := grown_cell HKX.out r0
      replace r1 := grown_cell HKX.out r1
      replace r2 := grown_cell HKX.out r2
      replace r3 := grown_cell HKX.out r3
      replace r4 := grown_cell HKX.out r4
      replace r5 := grown_cell HKX.out r5
      replace r6 := grown_cell HKX.out r6
      replace r7 := grown_cell HKX.out r7
      go_upto_region 8 with fail
      have HKY0 : Hid (Kept wx (wx.alloc (.cells #[.string nm, .bool tr, .int .i64 kp, .int .i64 fp, .int .i64 tp, .int .i64 mp, .int .i64 xp, .slice ka' kn' kc'] 72))) := (Kept.refl wx).alloc _ _
      have HY := hide1 (LxB.new wx nm tr kp fp tp mp xp (.slice ka' kn' kc'))
      obtain ⟨wy, hwy⟩ : ∃ wy, wx.alloc (.cells #[.string nm, .bool tr, .int .i64 kp, .int .i64 fp, .int .i64 tp, .int .i64 mp, .int .i64 xp, .slice ka' kn' kc'] 72) = wy := ⟨_, rfl⟩
      rw [hwy] at HKY0 HY ⊢
      obtain ⟨gy, hgy⟩ : ∃ g, wx.heap.size = g := ⟨_, rfl⟩
      rw [hgy] at HY ⊢
      clear hwy hgy r0 r1 r2 r3 r4 r5 r6 r7 b0
      have HX := hide1 (HX1.out.keep HKY0.out)
      have HKY := hide1 (gtrans HKX.out HKY0.out)
      have HKA2 := hide1 (HKA.out.kept HKY.out)
      have HKB2 := hide1 (HKB.out.kept HKY.out)
      have hky : Kept wy wy := Kept.refl wy
      obtain ⟨⟨x0, x1, x2, x3, x4, x5, x6, x7⟩, -⟩ := HX.out.facts
      obtain ⟨⟨y0, y1, y2, y3, y4, y5, y6, y7⟩, -⟩ := HY.out.facts
      have s0 := keeps x0
      have s1 := keeps x1
      have s2 := keeps x2
      have s3 := keeps x3
      have s4 := keeps x4
      have s5 := keeps x5
      have s6 := keeps x6
      have s7 := keeps x7
      have t0 := keeps y0
      have t1 := keeps y1
      have t2 := keeps y2
      have t3 := keeps y3
      have t4 := keeps y4
      have t5 := keeps y5
      have t6 := keeps y6
      have t7 := keeps y7
      have HKYR := hide1 (gtrans HKr.out HKY.out)
      clear HKr HKA HKB HKY HKY0 HKX HX1 x0 x1 x2 x3 x4 x5 x6 x7 y0 y1 y2 y3 y4 y5 y6 y7
      cases sb with
      | true =>
        go_region_held3 (fun w' => Kept wy w') (first | assumption | exact Kept.refl _ | exact gtrans (by assumption) (by assumption))
          ((first
            | (go_at_call 31; refine (HSM.out _ _ ⟨_, by first | exact HKA2.out.kept (by assumption) | exact HKB2.out.kept (by assumption)⟩).mono ?_; rintro e w6 ⟨rfl, hk6⟩)
            | (go_at_call 33; refine (HAL.out _ _ _ ⟨_, HKA2.out.kept (by assumption)⟩ ⟨_, HKB2.out.kept (by assumption)⟩).mono ?_; rintro e w6 ⟨rfl, hk6⟩)))
        have hk06 : Kept wy w6 := by assumption
        have HK6 := hide1 (gtrans HKYR.out hk06)
        clear hk06 s0 s1 s2 s3 s4 s5 s6 s7 t0 t1 t2 t3 t4 t5 t6 t7 hky
        go_wp2_with fail
        go_roundw
        case rel => exact ⟨j + 1, by go_num, by omega, HK6⟩
        case measure => simp [intOf]; omega
      | false =>
        refine wp_region_held_drew (S := fun X => Kept wy X) (by kernel_rfl) (drew_kept wy) (fun hHeld => ?_)
        refine tkH 0 (.pointer (some ⟨gx, 0, none⟩)) rfl (fun w' hSw => ?_) ?_
        · clear hSw
          go_simp
        try simp only [layS]
        refine tkH 1 (.string nm) rfl (fun w' hSw => ?_) ?_
        · have q := s0 w' hSw; clear hSw
          go_simp
        try simp only [layS]
        refine tkH 2 (.pointer (some ⟨gy, 0, none⟩)) rfl (fun w' hSw => ?_) ?_
        · clear hSw
          go_simp
        try simp only [layS]
        refine tkH 3 (.string nm) rfl (fun w' hSw => ?_) ?_
        · have q := t0 w' hSw; clear hSw
          go_simp
        try simp only [layS]
        refine tkH 4 (.bool false) rfl (fun w' hSw => ?_) ?_
        · clear hSw
          go_simp
        try simp only [layS]
        refine tkH 5 (.bool false) rfl (fun w' hSw => ?_) ?_
        · clear hSw
          go_simp
        try simp only [layS]
        refine tkH 6 (.pointer (some ⟨gx, 1, none⟩)) rfl (fun w' hSw => ?_) ?_
        · clear hSw
          go_simp
        try simp only [layS]
        refine tkH 7 (.bool tr) rfl (fun w' hSw => ?_) ?_
        · have q := s1 w' hSw; clear hSw
          go_simp
        try simp only [layS]
        refine tkH 8 (.pointer (some ⟨gy, 1, none⟩)) rfl (fun w' hSw => ?_) ?_
        · clear hSw
          go_simp
        try simp only [layS]
        refine tkH 9 (.bool tr) rfl (fun w' hSw => ?_) ?_
        · have q := t1 w' hSw; clear hSw
          go_simp
        try simp only [layS]
        refine tkH 10 (.bool false) rfl (fun w' hSw => ?_) ?_
        · clear hSw
          go_simp
        try simp only [layS]
        refine tkH 11 (.bool false) rfl (fun w' hSw => ?_) ?_
        · clear hSw
          go_simp
        try simp only [layS]
        refine tkH 12 (.bool false) rfl (fun w' hSw => ?_) ?_
        · clear hSw
          go_simp
        try simp only [layS]
        refine tkH 13 (.pointer (some ⟨gx, 2, none⟩)) rfl (fun w' hSw => ?_) ?_
        · clear hSw
          go_simp
        try simp only [layS]
        refine tkH 14 (.agg #[.int .i64 kp, .int .i64 fp, .int .i64 tp, .int .i64 mp, .int .i64 xp, .slice ka kn kc]) rfl (fun w' hSw => ?_) ?_
        · have c2 := s2 w' hSw; have c3 := s3 w' hSw; have c4 := s4 w' hSw; have c5 := s5 w' hSw; have c6 := s6 w' hSw; have c7 := s7 w' hSw; clear hSw
          go_simp
        try simp only [layS]
        refine tkH 16 (.pointer (some ⟨gy, 2, none⟩)) rfl (fun w' hSw => ?_) ?_
        · clear hSw
          go_simp
        try simp only [layS]
        refine tkH 17 (.agg #[.int .i64 kp, .int .i64 fp, .int .i64 tp, .int .i64 mp, .int .i64 xp, .slice ka' kn' kc']) rfl (fun w' hSw => ?_) ?_
        · have c2 := t2 w' hSw; have c3 := t3 w' hSw; have c4 := t4 w' hSw; have c5 := t5 w' hSw; have c6 := t6 w' hSw; have c7 := t7 w' hSw; clear hSw
          go_simp
        try simp only [layS]
        refine wpAnyH_ready (rs := [15]) (by kernel_rfl) (by simp) ?_
        refine AllReadyH.cons (i := 15) rfl (fun K hK => ?_) AllReadyH.nil
        go_simp
        go_wp2_with (go_at_call 31; refine (HSM.out _ _ ⟨_, by first | exact HKA2.out.kept (drew_kept wy) | exact HKB2.out.kept (drew_kept wy)⟩).mono ?_; rintro e w6 ⟨rfl, hk6⟩; have Hw6 := hide1 (gtrans (drew_kept wy) hk6); clear hk6)
        refine hK.out _ _ Hw6.out (fun hHeldN => ?_)
        clear hK K hHeld
        have hHeld := hHeldN
        clear hHeldN
        try simp only [layS]
        refine wpAnyH_ready (rs := [18]) (by kernel_rfl) (by simp) ?_
        refine AllReadyH.cons (i := 18) rfl (fun K hK => ?_) AllReadyH.nil
        go_simp
        go_wp2_with (go_at_call 31; refine (HSM.out _ _ ⟨_, by first | exact HKA2.out.kept Hw6.out | exact HKB2.out.kept Hw6.out⟩).mono ?_; rintro e w7 ⟨rfl, hk6⟩; have Hw7 := hide1 (gtrans Hw6.out hk6); clear hk6)
        refine hK.out _ _ Hw7.out (fun hHeldN => ?_)
        clear hK K hHeld
        have hHeld := hHeldN
        clear hHeldN
        try simp only [layS]
        refine tkH 19 (.bool false) rfl (fun w' hSw => ?_) ?_
        · clear hSw
          go_simp
        try simp only [layS]
        refine tkH 20 (.bool false) rfl (fun w' hSw => ?_) ?_
        · clear hSw
          go_simp
        try simp only [layS]
        refine tkH 21 (.bool false) rfl (fun w' hSw => ?_) ?_
        · clear hSw
          go_simp
        try simp only [layS]
        refine tkH 22 (.pointer (some ⟨gx, 2, none⟩)) rfl (fun w' hSw => ?_) ?_
        · clear hSw
          go_simp
        try simp only [layS]
        refine tkH 23 (.agg #[.int .i64 kp, .int .i64 fp, .int .i64 tp, .int .i64 mp, .int .i64 xp, .slice ka kn kc]) rfl (fun w' hSw => ?_) ?_
        · have c2 := s2 w' hSw; have c3 := s3 w' hSw; have c4 := s4 w' hSw; have c5 := s5 w' hSw; have c6 := s6 w' hSw; have c7 := s7 w' hSw; clear hSw
          go_simp
        try simp only [layS]
        refine wpAnyH_ready (rs := [24]) (by kernel_rfl) (by simp) ?_
        refine AllReadyH.cons (i := 24) rfl (fun K hK => ?_) AllReadyH.nil
        go_simp
        go_wp2_with (go_at_call 31; refine (HSM.out _ _ ⟨_, by first | exact HKA2.out.kept Hw7.out | exact HKB2.out.kept Hw7.out⟩).mono ?_; rintro e w8 ⟨rfl, hk6⟩; have Hw8 := hide1 (gtrans Hw7.out hk6); clear hk6)
        refine hK.out _ _ Hw8.out (fun hHeldN => ?_)
        clear hK K hHeld
        have hHeld := hHeldN
        clear hHeldN
        try simp only [layS]
        refine tkH 25 (.bool false) rfl (fun w' hSw => ?_) ?_
        · clear hSw
          go_simp
        try simp only [layS]
        refine wpAnyH_take (i := 26) (v := undef) rfl (by kernel_rfl) (by kernel_rfl) (by kernel_rfl) (fun _ _ _ h => h) (Or.inr ⟨by rfl, rfl⟩) (by with_reducible assumption) ?_
        try simp only [layS]
        refine wpAnyH_take (i := 27) (v := undef) rfl (by kernel_rfl) (by kernel_rfl) (by kernel_rfl) (fun _ _ _ h => h) (Or.inr ⟨by rfl, rfl⟩) (by with_reducible assumption) ?_
        try simp only [layS]
        refine wpAnyH_take (i := 28) (v := undef) rfl (by kernel_rfl) (by kernel_rfl) (by kernel_rfl) (fun _ _ _ h => h) (Or.inr ⟨by rfl, rfl⟩) (by with_reducible assumption) ?_
        try simp only [layS]
        refine wpAnyH_take (i := 29) (v := undef) rfl (by kernel_rfl) (by kernel_rfl) (by kernel_rfl) (fun _ _ _ h => h) (Or.inr ⟨by rfl, rfl⟩) (by with_reducible assumption) ?_
        try simp only [layS]
        refine wpAnyH_take (i := 30) (v := undef) rfl (by kernel_rfl) (by kernel_rfl) (by kernel_rfl) (fun _ _ _ h => h) (Or.inr ⟨by rfl, rfl⟩) (by with_reducible assumption) ?_
        try simp only [layS]
        refine wpAnyH_take (i := 31) (v := undef) rfl (by kernel_rfl) (by kernel_rfl) (by kernel_rfl) (fun _ _ _ h => h) (Or.inr ⟨by rfl, rfl⟩) (by with_reducible assumption) ?_
        try simp only [layS]
        refine tkH 32 (.bool false) rfl (fun w' hSw => ?_) ?_
        · clear hSw
          go_simp
        try simp only [layS]
        refine tkH 33 (.bool false) rfl (fun w' hSw => ?_) ?_
        · clear hSw
          go_simp
        try simp only [layS]
        refine wpAnyH_done (by kernel_rfl) ?_ _
        clear hHeld s0 s1 s2 s3 s4 s5 s6 s7 t0 t1 t2 t3 t4 t5 t6 t7 hky
        have HK6 := hide1 (gtrans HKYR.out Hw8.out)
        go_wp2_with fail
        go_roundw
        case rel => exact ⟨j + 1, by go_num, by omega, HK6⟩
        case measure => simp [intOf]; omega
    · go_wp2_with fail
      obtain ⟨wq, hwq⟩ : ∃ wq, wq = wr := ⟨_, rfl⟩
      subst hwq
      go_loopw [8] (fun i wt => ∃ j : Nat, i = .int .i64 (j : Int) ∧ j ≤ pn ∧ Hid (Kept wq wt)) (fun i _ => pn - (intOf i).toNat)
      case atStart => exact ⟨0, rfl, Nat.zero_le _, Kept.refl _⟩
      case round =>
        obtain ⟨m, rfl, hm, HKt⟩ := hrel
        obtain ⟨wt, hwt⟩ : ∃ wt, wt = wr := ⟨_, rfl⟩
        subst hwt
        have HKW := hide1 (gtrans HKr.out HKt.out)
        obtain ⟨⟨a0, a1, a2, a3⟩, -⟩ := (HAr.out.keep HKt.out).facts
        obtain ⟨⟨b0, b1, b2, b3⟩, -⟩ := (HBr.out.keep HKt.out).facts
        by_cases hlt2 : (m : Int) < (pn : Int)
        · obtain ⟨x, hx⟩ : ∃ x, sp.prd[m]? = some x := ⟨_, List.getElem?_eq_getElem (by have := HPN.out; omega)⟩
          obtain ⟨cb, o, ra, rc, ea, q0, q1, hra⟩ := prods_el (HA.out.keep (gtrans HW5.out HKW.out)).2.2 hx
          obtain ⟨cb', o', ra', rc', ea', r0, r1, hrb⟩ := prods_el (HB.out.keep (gtrans HW5.out HKW.out)).2.2 hx
          subst ea ea'
          obtain ⟨lf, row⟩ := x
          dsimp only at q0 q1 r0 r1 hra hrb
          obtain ⟨hr1, hr2, hr3⟩ := slice_n hra
          obtain ⟨_, hr4, _⟩ := slice_n hrb
          obtain ⟨rn, hrn⟩ : ∃ z, row.length = z := ⟨_, rfl⟩
          rw [hrn] at hr2 hr3 hr4 hra hrb q1 r1
          have HRA := hide1 hra
          have HRB := hide1 hrb
          have HRN := hide1 hrn
          have g8 : (rn : Int) ≤ 17592186044416 := by omega
          have g9 : (rn : Int) ≤ (rc : Int) := by omega
          have g10 : (rn : Int) ≤ (rc' : Int) := by omega
          clear hx hra hrb hr1 hr2 hr3 hr4 hrn
          go_upto_region 14 with fail
          have HKX : Hid (Kept wt (wt.alloc (.cells #[.int .i64 lf, .slice ra rn rc] 66))) := (Kept.refl wt).alloc _ _
          have HX1 := hide1 (PdB.new wt lf (.slice ra rn rc))
          obtain ⟨wx, hwx⟩ : ∃ wx, wt.alloc (.cells #[.int .i64 lf, .slice ra rn rc] 66) = wx := ⟨_, rfl⟩
          rw [hwx] at HKX HX1 ⊢
          obtain ⟨gx, hgx⟩ : ∃ g, wt.heap.size = g := ⟨_, rfl⟩
          rw [hgx] at HX1 ⊢
          clear hwx hgx q0 q1 a0 a1 a2 a3 b0 b1 b2
          replace b3 := grown_cell HKX.out b3
          replace r0 := grown_cell HKX.out r0
          replace r1 := grown_cell HKX.out r1
          go_upto_region 15 with fail
          have HKY0 : Hid (Kept wx (wx.alloc (.cells #[.int .i64 lf, .slice ra' rn rc'] 66))) := (Kept.refl wx).alloc _ _
          have HY1 := hide1 (PdB.new wx lf (.slice ra' rn rc'))
          obtain ⟨wy, hwy⟩ : ∃ wy, wx.alloc (.cells #[.int .i64 lf, .slice ra' rn rc'] 66) = wy := ⟨_, rfl⟩
          rw [hwy] at HKY0 HY1 ⊢
          obtain ⟨gy, hgy⟩ : ∃ g, wx.heap.size = g := ⟨_, rfl⟩
          rw [hgy] at HY1 ⊢
          clear hwy hgy r0 r1 b3
          have HX := hide1 (HX1.out.keep HKY0.out)
          have HKY := hide1 (gtrans HKX.out HKY0.out)
          obtain ⟨⟨x0, x1⟩, -⟩ := HX.out.facts
          obtain ⟨⟨y0, y1⟩, -⟩ := HY1.out.facts
          go_wp2_with fail
          clear x0 x1 y0 y1
          go_loopw [11] (fun i wz => ∃ j : Nat, i = .int .i64 (j : Int) ∧ j ≤ rn ∧ Hid (Kept wy wz)) (fun i _ => rn - (intOf i).toNat)
          case atStart => exact ⟨0, rfl, Nat.zero_le _, Kept.refl _⟩
          case round =>
            obtain ⟨k, rfl, hk, HKz⟩ := hrel
            obtain ⟨wz, hwz⟩ : ∃ wz, wz = wr := ⟨_, rfl⟩
            subst hwz
            obtain ⟨⟨x0, x1⟩, -⟩ := (HX.out.keep HKz.out).facts
            obtain ⟨⟨y0, y1⟩, -⟩ := (HY1.out.keep HKz.out).facts
            by_cases hlt3 : (k : Int) < (rn : Int)
            · obtain ⟨s, hs⟩ : ∃ s, row[k]? = some s := ⟨_, List.getElem?_eq_getElem (by have := HRN.out; omega)⟩
              obtain ⟨sb, so, ea, q0, q1⟩ := sym_el (HRA.out.keep (gtrans HKY.out HKz.out)) hs
              obtain ⟨sb', so', ea', r0, r1⟩ := sym_el (HRB.out.keep (gtrans HKY.out HKz.out)) hs
              subst ea ea'
              obtain ⟨s1, s2⟩ := s
              dsimp only at q0 q1 r0 r1
              have hne := sym_neq s1 s2
              clear hs
              go_wp2_with fail
              go_quiet (fail)
              have HK6 := hide1 (gtrans HKz.out (drewN_kept wz nq))
              go_wp2_with fail
              go_roundw
              case rel => exact ⟨k + 1, by go_num, by omega, HK6⟩
              case measure => simp [intOf]; omega
            · go_wp2_with fail
              go_roundw
              case rel => exact ⟨m + 1, by go_num, by omega, gtrans HKt.out (gtrans HKY.out HKz.out)⟩
              case measure => simp [intOf]; omega
        · go_wp2_with fail
          go_ret
          exact ⟨rfl, gtrans HW5.out HKW.out⟩
end Gu
end Ex
end Go.Proofs.YtbnchnlogikecaaGreatDoor
