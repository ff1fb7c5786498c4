import Derived.Test.YtbnchnlogikecaaGreatDoorPSpSz2
import Derived.Test.YtbnchnlogikecaaGreatDoorPExKl
import Derived.Test.YtbnchnlogikecaaGreatDoorPGu9
import Derived.Deep.DeepMust
import Derived.BigQuiet
import Derived.Deep.RegionHeld3
namespace Go.Proofs.YtbnchnlogikecaaGreatDoor
open Go.RowKit
attribute [local go_sem] Oper.semAt_some
set_option linter.unusedVariables false
set_option linter.unusedSimpArgs false
set_option maxRecDepth 100000
set_option maxHeartbeats 8000000
namespace Ex
namespace Gu
open Sh Gs
theorem lines_is (la na pa xa : Option Addr) (ln lc nn nc pn pc xn xc bx : Nat) (sp : SpV) (w : World) (hr : SpR w (.slice la ln lc) (.slice na nn nc) (.slice pa pn pc) sp) (hg : Good sp) (hx : LO strE w bx (.slice xa xn xc) (patsM sp)) :
    Calls Tryz.prog 43 #[.agg #[.slice la ln lc, .slice na nn nc, .int .i64 sp.start, .slice pa pn pc], .slice xa xn xc] w fun e w' => e = .returned (.string ⟨(linesM sp).toArray⟩) ∧ Kept w w' := by
  have HTL0 := hide1 (linesM_len hg)
  obtain ⟨T, hTe⟩ : ∃ T, linesM sp = T := ⟨_, rfl⟩
  rw [hTe] at HTL0 ⊢
  have HTL := hide1 (show T.length ≤ 1000000000 from Nat.le_trans HTL0.out (by omega))
  have HTE := hide1 hTe
  have HGD := hide1 hg
  obtain ⟨hr1, hr2, hr3⟩ := hr
  obtain ⟨hln, hlc, -⟩ := slice_n hr1
  obtain ⟨hnn, hnc, -⟩ := slice_n hr2
  obtain ⟨hpn, hpc, -⟩ := slice_n hr3
  have HR1 := hide1 hr1
  have HR2 := hide1 hr2
  have HR3 := hide1 hr3
  have HLN := hide1 hln
  have HNN := hide1 hnn
  have HPN := hide1 hpn
  have hlI : (ln : Int) ≤ 64 := by have := hg.lex; omega
  have hnI : (nn : Int) ≤ 128 := by have := hg.nam; omega
  have hpI : (pn : Int) ≤ 512 := by have := hg.prd; omega
  have HX := hide1 hx
  have HXN := hide1 (show xn = ln by rw [← lo_lens hx]; unfold patsM; rw [List.length_map]; exact hln)
  have HXC := hide1 (show xn ≤ xc by have := LO.cap hx; rw [lo_lens hx] at this; exact this)
  obtain ⟨s0, hs0⟩ : ∃ s0 : Nat, sp.start = (s0 : Int) := ⟨sp.start.toNat, by have := hg.st; omega⟩
  have HS0 := hide1 (show s0 < nn by have := hg.st; omega)
  have HSE := hide1 hs0
  obtain ⟨st, hst⟩ : ∃ x, sp.start = x := ⟨_, rfl⟩
  rw [hst] at hs0 ⊢
  subst hs0
  have HK0 := hide1 (((Kept.refl w).alloc #[.slice la ln lc, .slice na nn nc, .int .i64 (s0 : Int), .slice pa pn pc] 27).alloc #[.pointer none, .slice none 0 0] 114)
  have HL0 : Hid (LsI w ((w.alloc (.cells #[.slice la ln lc, .slice na nn nc, .int .i64 (s0 : Int), .slice pa pn pc] 27)).alloc (.cells #[.pointer none, .slice none 0 0] 114)) (w.heap.size + 1) w.heap.size #[.slice la ln lc, .slice na nn nc, .int .i64 (s0 : Int), .slice pa pn pc] T T) := by
    refine ⟨.slice none 0 0, [], ⟨((Kept.refl w).alloc _ _).alloc _ _, ⟨⟨.pointer none, .inl rfl, ?_⟩, OutAt.nil _ _, by intro e; cases e⟩, (heap_alloc_old _ _ (by simp)).trans (heap_alloc_new w _), by omega⟩, rfl⟩
    have h := heap_alloc_new (w.alloc (.cells #[.slice la ln lc, .slice na nn nc, .int .i64 (s0 : Int), .slice pa pn pc] 27)) (.cells #[.pointer none, .slice none 0 0] 114)
    rw [World.size_alloc] at h
    exact h
  clear hTe hg hr1 hr2 hr3 hln hnn hpn hx hst
  go_enter Tryz.func43, Tryz.ntmps43
  go_upto_region 2 with fail
  obtain ⟨b, hb⟩ : ∃ b, w.heap.size + 1 = b := ⟨_, rfl⟩
  obtain ⟨g2, hg2⟩ : ∃ g, w.heap.size = g := ⟨_, rfl⟩
  rw [hb] at HL0 ⊢
  have HBL := hide1 (show w.heap.size ≤ b by omega)
  generalize (w.alloc (.cells #[.slice la ln lc, .slice na nn nc, .int .i64 (s0 : Int), .slice pa pn pc] 27)).alloc (.cells #[.pointer none, .slice none 0 0] 114) = W1 at HL0 HK0 ⊢
  have HL1 : Hid (LsI w W1 b g2 #[.slice la ln lc, .slice na nn nc, .int .i64 (s0 : Int), .slice pa pn pc] T (lexMw sp.lex ++ (startMw sp ++ nontMw sp 0 sp.nam 0))) := by
    have h := HL0.out
    rw [hg2] at h
    refine h.re ?_
    rw [← HTE.out]
    unfold linesM
    rw [List.append_assoc]
  rw [hg2]
  clear hb hg2 HL0 HK0
  have k0 : W1.cell? ⟨g2, 0, none⟩ = some (.slice la ln lc) := by have := HL1.out.box; simp [World.cell?, this]
  go_wp2_with fail
  clear k0
  go_loopw [18] (fun v18 wr => ∃ i : Nat, v18 = .int .i64 (i : Int) ∧ i ≤ ln ∧ Hid (LsI w wr b g2 #[.slice la ln lc, .slice na nn nc, .int .i64 (s0 : Int), .slice pa pn pc] T (lexMw (sp.lex.drop i) ++ (startMw sp ++ nontMw sp 0 sp.nam 0)))) (fun v18 _ => ln - (intOf v18).toNat)
  case atStart => exact ⟨0, rfl, Nat.zero_le _, HL1.out⟩
  case round =>
    clear HL1
    obtain ⟨i, rfl, hi, hI⟩ := hrel
    by_cases hlt : i < ln
    · have hil : i < sp.lex.length := by rw [HLN.out]; exact hlt
      obtain ⟨x, hxe⟩ : ∃ x, sp.lex[i]'hil = x := ⟨_, rfl⟩
      have hxi : sp.lex[i]? = some x := by rw [List.getElem?_eq_getElem hil, hxe]
      have HLI : Hid (LsI w wr b g2 #[.slice la ln lc, .slice na nn nc, .int .i64 (s0 : Int), .slice pa pn pc] T (bl (lineM x (printS x.2.2.2)) ++ (lexMw (sp.lex.drop (i + 1)) ++ (startMw sp ++ nontMw sp 0 sp.nam 0)))) := by
        have h := hI.out
        rw [List.drop_eq_getElem_cons hil, hxe, lexMw, List.append_assoc] at h
        exact h
      obtain ⟨cb, ob, ka, kn, kc, hla, ⟨k0, k1, k2, k3, k4, k5, k6, k7⟩, -⟩ := lex_el HR1.out hxi
      subst hla
      have hpi : (patsM sp)[i]? = some (printS x.2.2.2) := by unfold patsM; rw [List.getElem?_map, hxi]; rfl
      obtain ⟨gp, hgp⟩ := LO.some HX.out (fun e => by rw [e] at hpi; cases hpi)
      subst hgp
      have kp : w.cell? ⟨gp, i, none⟩ = some (.string (printS x.2.2.2)) := by
        have h := LO.cell (E := strE) HX.out hpi (j := 0) rfl
        have e : i * strE.sz + 0 = i := by show i * 1 + 0 = i; omega
        rw [e] at h
        exact h
      have HNS := hide1 (nameB_size (HGD.out.lnm x (List.mem_of_getElem? hxi)).1)
      have HPS := hide1 (printS_size x.2.2.2)
      obtain ⟨nm, tr, n, ptn⟩ := x
      dsimp only at HLI HNS HPS k0 k1 k2 k3 k4 k5 k6 kp
      obtain ⟨⟨e0, hE0⟩, ⟨e1, hE1⟩, ⟨e2, hE2⟩, ⟨e3, hE3⟩, ⟨e4, hE4⟩, ⟨pt, hpt⟩⟩ : (∃ x, kind ptn = x) ∧ (∃ x, from_ ptn = x) ∧ (∃ x, to_ ptn = x) ∧ (∃ x, min_ ptn = x) ∧ (∃ x, max_ ptn = x) ∧ (∃ x, printS ptn = x) := ⟨⟨_, rfl⟩, ⟨_, rfl⟩, ⟨_, rfl⟩, ⟨_, rfl⟩, ⟨_, rfl⟩, ⟨_, rfl⟩⟩
      rw [hE0] at k2
      rw [hE1] at k3
      rw [hE2] at k4
      rw [hE3] at k5
      rw [hE4] at k6
      rw [hpt] at kp HLI HPS
      have k0 := grown_cell hI.out.kept k0
      have k1 := grown_cell hI.out.kept k1
      have k2 := grown_cell hI.out.kept k2
      have k3 := grown_cell hI.out.kept k3
      have k4 := grown_cell hI.out.kept k4
      have k5 := grown_cell hI.out.kept k5
      have k6 := grown_cell hI.out.kept k6
      have k7 := grown_cell hI.out.kept k7
      have kp := grown_cell (hI.out.kept.alloc #[.string nm, .bool tr, .int .i64 e0, .int .i64 e1, .int .i64 e2, .int .i64 e3, .int .i64 e4, .slice ka kn kc] 72) kp
      have HRL := hide1 (fun w => ruleLine_is nm pt tr e0 e1 e2 e3 e4 (.slice ka kn kc) w (by have := HNS.out; omega) (by have := HPS.out; omega))
      have HLA := hide1 (HLI.out.keep ((Kept.refl wr).alloc #[.string nm, .bool tr, .int .i64 e0, .int .i64 e1, .int .i64 e2, .int .i64 e3, .int .i64 e4, .slice ka kn kc] 72))
      have HSP : Hid (0 < (lineM ⟨nm, tr, ⟨n, ptn⟩⟩ pt).size) := by show 0 < ByteArray.size _; unfold lineM; rw [ByteArray.size_append]; have h6 : offW.size = 3 := rfl; omega
      have HBA : Hid ((wr.alloc (.cells #[.string nm, .bool tr, .int .i64 e0, .int .i64 e1, .int .i64 e2, .int .i64 e3, .int .i64 e4, .slice ka kn kc] 72)).heap[wr.heap.size]? = some (.cells #[.string nm, .bool tr, .int .i64 e0, .int .i64 e1, .int .i64 e2, .int .i64 e3, .int .i64 e4, .slice ka kn kc] 72 (0, 0))) := heap_alloc_new wr _
      have eI : (i : Int) < (ln : Int) := by omega
      have gjc : (i : Int) < (lc : Int) := by omega
      have gxn : (i : Int) < (xn : Int) := by have := HXN.out; omega
      have gxc : (i : Int) < (xc : Int) := by have := HXN.out; have := HXC.out; omega
      have HI2 := hide1 hlt
      unfold lineM at HLA HSP
      dsimp only at HLA HSP
      clear hI hlt hi hxe hxi hil hpi hE0 hE1 hE2 hE3 hE4 hpt HLI
      go_upto_region 5 with fail
      obtain ⟨g7, hg7⟩ : ∃ g, wr.heap.size = g := ⟨_, rfl⟩
      generalize wr.alloc (.cells #[.string nm, .bool tr, .int .i64 e0, .int .i64 e1, .int .i64 e2, .int .i64 e3, .int .i64 e4, .slice ka kn kc] 72) = W2 at HLA HBA kp ⊢
      rw [hg7] at HBA ⊢
      clear hg7 k0 k1 k2 k3 k4 k5 k6 k7
      have k0 : W2.cell? ⟨g7, 0, none⟩ = some (.string nm) := by have := HBA.out; simp [World.cell?, this]
      have k1 : W2.cell? ⟨g7, 1, none⟩ = some (.bool tr) := by have := HBA.out; simp [World.cell?, this]
      have k2 : W2.cell? ⟨g7, 2, none⟩ = some (.int .i64 e0) := by have := HBA.out; simp [World.cell?, this]
      have k3 : W2.cell? ⟨g7, 3, none⟩ = some (.int .i64 e1) := by have := HBA.out; simp [World.cell?, this]
      have k4 : W2.cell? ⟨g7, 4, none⟩ = some (.int .i64 e2) := by have := HBA.out; simp [World.cell?, this]
      have k5 : W2.cell? ⟨g7, 5, none⟩ = some (.int .i64 e3) := by have := HBA.out; simp [World.cell?, this]
      have k6 : W2.cell? ⟨g7, 6, none⟩ = some (.int .i64 e4) := by have := HBA.out; simp [World.cell?, this]
      have k7 : W2.cell? ⟨g7, 7, none⟩ = some (.slice ka kn kc) := by have := HBA.out; simp [World.cell?, this]
      refine z_region (S := fun w' => Kept W2 w') 6 (by kernel_rfl) (drew_kept _) (fun hHeld => ?_)
      refine tkZ 0 (.agg #[.string nm, .bool tr, .int .i64 e0, .int .i64 e1, .int .i64 e2, .int .i64 e3, .int .i64 e4, .slice ka kn kc]) [5, 6] rfl (fun w' hSw => ?_) ?_
      · have q0 := grown_cell hSw k0; have q1 := grown_cell hSw k1; have q2 := grown_cell hSw k2; have q3 := grown_cell hSw k3; have q4 := grown_cell hSw k4; have q5 := grown_cell hSw k5; have q6 := grown_cell hSw k6; have q7 := grown_cell hSw k7
        go_simp
      try simp only [layS]
      refine tkZ 1 (.slice (some ⟨gp, 0, none⟩) xn xc) [3, 4, 5, 6] rfl (fun w' hSw => ?_) ?_
      · clear hSw
        go_simp
      try simp only [layS]
      refine tkZ 2 (.int .i64 (i : Int)) [3, 4, 5, 6] rfl (fun w' hSw => ?_) ?_
      · clear hSw
        go_simp
      try simp only [layS]
      refine tkZ 3 (.pointer (some ⟨gp, i, none⟩)) [4, 5, 6] rfl (fun w' hSw => ?_) ?_
      · clear hSw
        go_simp
      try simp only [layS]
      refine tkZ 4 (.string pt) [5, 6] rfl (fun w' hSw => ?_) ?_
      · have q8 := grown_cell hSw kp
        go_simp
      try simp only [layS]
      refine z_one (i := 5) (by kernel_rfl) (by rfl) rfl (fun K hK => ?_)
      go_simp
      refine (HRL.out _).mono ?_
      rintro e w4 ⟨rfl, hk4⟩
      have HK4 := hide1 (gtrans (drew_kept _) hk4)
      clear hk4
      refine hK.out _ _ HK4.out (fun hHeldN => ?_)
      clear hK K hHeld
      have hHeld := hHeldN
      clear hHeldN
      try simp only [layS]
      refine z_last (by kernel_rfl) (by kernel_rfl) rfl (fun K hK => ?_)
      go_simp
      refine (ls_write (HLA.out.keep HK4.out) (by exact HSP.out) HTL.out).mono ?_
      rintro e w5 ⟨rfl, hl5, -⟩
      have HL5 := hide1 hl5
      clear hl5
      refine hK.out _ _ ?_
      clear hK K hHeld
      clear k0 k1 k2 k3 k4 k5 k6 k7 kp
      go_wp2_with fail
      refine ⟨⟨i + 1, by rfl, HI2.out, HL5.out⟩, ?_⟩
      have := HI2.out
      simp [intOf]; omega
    have HLI : Hid (LsI w wr b g2 #[.slice la ln lc, .slice na nn nc, .int .i64 (s0 : Int), .slice pa pn pc] T (startMw sp ++ nontMw sp 0 sp.nam 0)) := by
      have h := hI.out
      rw [List.drop_eq_nil_of_le (by rw [HLN.out]; omega)] at h
      exact h
    have eI : ¬ ((i : Int) < (ln : Int)) := by omega
    clear hI hlt hi HX HXN HXC
    have HS1 : Hid (∃ t, sp.nam[s0]? = some t ∧ 0 < t.size ∧ t.size ≤ 64 ∧ startMw sp = bl (startsW ++ t ++ endsW)) := by
      have h1 : s0 < sp.nam.length := by rw [HNN.out]; exact HS0.out
      have h2 := nameB_size (HGD.out.nnm _ (List.getElem_mem h1))
      refine ⟨_, List.getElem?_eq_getElem h1, h2.2, h2.1, ?_⟩
      unfold startMw
      rw [HSE.out, Int.toNat_natCast, List.getElem?_eq_getElem h1]
      rfl
    obtain ⟨snm, hsn, hsp, hsl, hse⟩ := HS1.out
    obtain ⟨cb, ob, hna, k0, -⟩ := names_el HR2.out hsn
    subst hna
    have HLS : Hid (LsI w wr b g2 #[.slice la ln lc, .slice (some ⟨cb, ob, none⟩) nn nc, .int .i64 (s0 : Int), .slice pa pn pc] T (bl (startsW ++ snm ++ endsW) ++ nontMw sp 0 sp.nam 0)) := by
      have h := HLI.out
      rw [hse] at h
      exact h
    have HSZ : Hid (0 < (startsW ++ snm ++ endsW).size) := by
      show 0 < ByteArray.size _
      rw [ByteArray.size_append]
      have h6 : endsW.size = 2 := rfl
      omega
    have k0 := grown_cell HLI.out.kept k0
    have m1 : wr.cell? ⟨g2, 1, none⟩ = some (.slice (some ⟨cb, ob, none⟩) nn nc) := by have := HLI.out.box; simp [World.cell?, this]
    have m2 : wr.cell? ⟨g2, 2, none⟩ = some (.int .i64 (s0 : Int)) := by have := HLI.out.box; simp [World.cell?, this]
    have gs0 : (s0 : Int) < (nn : Int) := by have := HS0.out; omega
    have gsc : (s0 : Int) < (nc : Int) := by have := HS0.out; omega
    have gsz : (snm.size : Int) ≤ 64 := by omega
    clear hsn hsl hse HLI HS1
    go_upto_region 7 with fail
    go_upto_region 8 with (go_at_call 58; go_must (refine (ls_write (s := startsW ++ snm ++ endsW) HLS.out HSZ.out HTL.out).mono ?_; rintro e w5 ⟨rfl, hl5, -⟩; have HL5 := hide1 hl5; clear hl5))
    clear k0 m1 m2 HLS HSZ gs0 gsc gsz hsp
    have m0 : w5.cell? ⟨g2, 0, none⟩ = some (.slice la ln lc) := by have := HL5.out.box; simp [World.cell?, this]
    have m1 : w5.cell? ⟨g2, 1, none⟩ = some (.slice (some ⟨cb, ob, none⟩) nn nc) := by have := HL5.out.box; simp [World.cell?, this]
    have m2 : w5.cell? ⟨g2, 2, none⟩ = some (.int .i64 (s0 : Int)) := by have := HL5.out.box; simp [World.cell?, this]
    have m3 : w5.cell? ⟨g2, 3, none⟩ = some (.slice pa pn pc) := by have := HL5.out.box; simp [World.cell?, this]
    have HNM := hide1 (Names_is la (some ⟨cb, ob, none⟩) ln lc nn nc (.slice pa pn pc) sp w5 (SpR.keep (vp := .slice pa pn pc) ⟨HR1.out, HR2.out, HR3.out⟩ HL5.out.kept).1 (NamesAt.keep HR2.out HL5.out.kept) (by omega))
    rw [HSE.out] at HNM
    obtain ⟨wn, hwn⟩ : ∃ n, (namesM sp).length = n := ⟨_, rfl⟩
    rw [hwn] at HNM
    have HWN := hide1 (show wn = ln + 2 + nn by rw [← hwn, namesM_len, HLN.out, HNN.out])
    clear hwn
    go_upto_region 9 with (go_at_call 17; go_must (refine HNM.out.mono ?_; rintro e w6 ⟨wa, wc, rfl, hwo, hk6⟩; have HWO := hide1 hwo; have HL6 := hide1 (HL5.out.keep hk6); clear hwo hk6))
    clear m0 m1 m2 m3 HNM HL5
    have m1 : w6.cell? ⟨g2, 1, none⟩ = some (.slice (some ⟨cb, ob, none⟩) nn nc) := by have := HL6.out.box; simp [World.cell?, this]
    obtain ⟨bx2, hbx2⟩ : ∃ x, w5.heap.size = x := ⟨_, rfl⟩
    rw [hbx2] at HWO
    clear hbx2
    go_wp2_with fail
    clear m1
    go_loopw [9, 45] (fun v9 v45 wr => ∃ (j nx : Nat), v45 = .int .i64 (j : Int) ∧ v9 = .int .i64 (nx : Int) ∧ j ≤ nn ∧ nx ≤ pn ∧ Hid (LsI w wr b g2 #[.slice la ln lc, .slice (some ⟨cb, ob, none⟩) nn nc, .int .i64 (s0 : Int), .slice pa pn pc] T (nontMw sp j (sp.nam.drop j) nx) ∧ LO strE wr bx2 (.slice wa wn wc) (namesM sp))) (fun _ v45 _ => nn - (intOf v45).toNat)
    case atStart => exact ⟨0, 0, rfl, rfl, Nat.zero_le _, Nat.zero_le _, HL6.out, HWO.out⟩
    case round =>
      clear HL6 HWO
      obtain ⟨j, nx, rfl, rfl, hj, hnx, hJ⟩ := hrel
      by_cases hlt : j < nn
      case neg =>
        have HLE : Hid (LsI w wr b g2 #[.slice la ln lc, .slice (some ⟨cb, ob, none⟩) nn nc, .int .i64 (s0 : Int), .slice pa pn pc] T []) := by
          have h := hJ.out.1
          rw [List.drop_eq_nil_of_le (by rw [HNN.out]; omega)] at h
          exact h
        have eJ : ¬ ((j : Int) < (nn : Int)) := by omega
        obtain ⟨v, L, hl, hle⟩ := HLE.out
        rw [List.append_nil] at hle
        subst hle
        have HST := hide1 (string_is b w.heap.size v L wr hl.bld HBL.out hl.kept.size)
        have HKW := hide1 hl.kept
        clear hJ HLE hl hlt hj hnx
        go_wp2_with (go_at_call 61; go_must (refine HST.out.mono ?_; rintro e w9 ⟨rfl, hb9⟩; have HK9 := hide1 hb9; clear hb9))
        go_ret
        exact ⟨rfl, kept_below HKW.out HK9.out⟩
      have hjl : j < sp.nam.length := by rw [HNN.out]; exact hlt
      obtain ⟨nm, hxe⟩ : ∃ x, sp.nam[j]'hjl = x := ⟨_, rfl⟩
      have hxi : sp.nam[j]? = some nm := by rw [List.getElem?_eq_getElem hjl, hxe]
      obtain ⟨cb2, ob2, hna, k0, -⟩ := names_el HR2.out hxi
      injection hna with hna
      injection hna with hna1 hna2 _
      subst hna1 hna2
      have k0 := grown_cell hJ.out.1.kept k0
      have HNS := hide1 (nameB_size (HGD.out.nnm nm (List.mem_of_getElem? hxi)))
      have HLS : Hid (LsI w wr b g2 #[.slice la ln lc, .slice (some ⟨cb, ob, none⟩) nn nc, .int .i64 (s0 : Int), .slice pa pn pc] T (bl (nm ++ eqsW) ++ ((sideMw sp (j : Int) true (sp.prd.drop nx)).1 ++ (bl endsW ++ nontMw sp (j + 1) (sp.nam.drop (j + 1)) (nx + (sideMw sp (j : Int) true (sp.prd.drop nx)).2))))) := by
        have h := hJ.out.1
        rw [List.drop_eq_getElem_cons hjl, hxe, nontMw, List.append_assoc, List.append_assoc] at h
        exact h
      have HSZ : Hid (0 < (nm ++ eqsW).size) := by
        show 0 < ByteArray.size _
        rw [ByteArray.size_append]
        have h6 : eqsW.size = 2 := rfl
        omega
      have HWO := hide1 hJ.out.2
      have eJ : (j : Int) < (nn : Int) := by omega
      have gjc : (j : Int) < (nc : Int) := by omega
      have gsz : (nm.size : Int) ≤ 64 := by have := HNS.out; omega
      have HI2 := hide1 hlt
      have HNX := hide1 hnx
      clear hJ hlt hj hxe hxi hjl hnx
      go_upto_region 13 with (go_at_call 58; go_must (refine (ls_write (s := nm ++ eqsW) HLS.out HSZ.out HTL.out).mono ?_; rintro e w5 ⟨rfl, hl5, hw5⟩; have HL5 := hide1 hl5; have HW5 := hide1 (hw5 _ _ _ HWO.out); clear hl5 hw5))
      clear k0 HLS HSZ HWO gsz
      go_wp2_with fail
      go_loopw [9] (fun v9 wr => ∃ ny : Nat, v9 = .int .i64 (ny : Int) ∧ nx ≤ ny ∧ ny ≤ pn ∧ Hid (LsI w wr b g2 #[.slice la ln lc, .slice (some ⟨cb, ob, none⟩) nn nc, .int .i64 (s0 : Int), .slice pa pn pc] T ((sideMw sp (j : Int) (decide (ny = nx)) (sp.prd.drop ny)).1 ++ (bl endsW ++ nontMw sp (j + 1) (sp.nam.drop (j + 1)) (ny + (sideMw sp (j : Int) (decide (ny = nx)) (sp.prd.drop ny)).2))) ∧ LO strE wr bx2 (.slice wa wn wc) (namesM sp))) (fun v9 _ => pn - (intOf v9).toNat)
      case atStart => exact ⟨nx, rfl, Nat.le_refl _, HNX.out, by rw [decide_eq_true rfl]; exact HL5.out, HW5.out⟩
      case round =>
        clear HL5 HW5
        obtain ⟨ny, rfl, hny1, hny2, hY⟩ := hrel
        by_cases hlp : ny < pn
        case neg =>
          have hno : sideMw sp (j : Int) (decide (ny = nx)) (sp.prd.drop ny) = ([], 0) := side_no (fun p hp => by
            rw [List.drop_eq_nil_of_le (by rw [HPN.out]; omega)] at hp
            cases hp)
          have eN : ¬ ((ny : Int) < (pn : Int)) := by omega
          have m3 : wr.cell? ⟨g2, 3, none⟩ = some (.slice pa pn pc) := by have := hY.out.1.box; simp [World.cell?, this]
          have HLE : Hid (LsI w wr b g2 #[.slice la ln lc, .slice (some ⟨cb, ob, none⟩) nn nc, .int .i64 (s0 : Int), .slice pa pn pc] T (bl endsW ++ nontMw sp (j + 1) (sp.nam.drop (j + 1)) ny)) := by
            have h := hY.out.1
            rw [hno] at h
            exact h
          have HWE := hide1 hY.out.2
          have HNY2 := hide1 hny2
          clear hY hno hny1 hny2
          clear hlp
          go_wp2_with (go_at_call 58; go_must (refine (ls_write (s := endsW) HLE.out (by decide) HTL.out).mono ?_; rintro e w8 ⟨rfl, hl8, hw8⟩; have HL8 := hide1 hl8; have HW8 := hide1 (hw8 _ _ _ HWE.out); clear hl8 hw8))
          refine ⟨⟨j + 1, ny, by rfl, by rfl, HI2.out, HNY2.out, HL8.out, HW8.out⟩, ?_⟩
          have := HI2.out
          simp [intOf]; omega
        have hpl : ny < sp.prd.length := by rw [HPN.out]; exact hlp
        obtain ⟨p, hpe⟩ : ∃ p, sp.prd[ny]'hpl = p := ⟨_, rfl⟩
        have hpi : sp.prd[ny]? = some p := by rw [List.getElem?_eq_getElem hpl, hpe]
        obtain ⟨cp, op, ra, rc, hpa, q0, qq1, hrt⟩ := prods_el HR3.out hpi
        subst hpa
        have q0 := grown_cell hY.out.1.kept q0
        have m3 : wr.cell? ⟨g2, 3, none⟩ = some (.slice (some ⟨cp, op, none⟩) pn pc) := by have := hY.out.1.box; simp [World.cell?, this]
        have eN : (ny : Int) < (pn : Int) := by omega
        have gnp : (ny : Int) < (pc : Int) := by omega
        have hdr : sp.prd.drop ny = p :: sp.prd.drop (ny + 1) := by rw [List.drop_eq_getElem_cons hpl, hpe]
        have HNO := hide1 (HGD.out.sym p (List.mem_of_getElem? hpi))
        obtain ⟨pl, row⟩ := p
        dsimp only at q0 qq1 hrt HNO
        obtain ⟨rn, hrn⟩ : ∃ n, row.length = n := ⟨_, rfl⟩
        rw [hrn] at qq1 hrt
        have HRN := hide1 hrn
        have HRT := hide1 hrt
        have HRC := hide1 (slice_n hrt).2.1
        have hrI : (rn : Int) ≤ 16 := by have := HGD.out.row _ (List.mem_of_getElem? hpi); dsimp only at this; omega
        by_cases hpj : pl = (j : Int)
        case neg =>
          have hno : sideMw sp (j : Int) (decide (ny = nx)) (sp.prd.drop ny) = ([], 0) := side_no (fun p hp => by
            rw [hdr] at hp
            cases hp
            exact hpj)
          have ep : (pl == (j : Int)) = false := by simpa using hpj
          have HLE : Hid (LsI w wr b g2 #[.slice la ln lc, .slice (some ⟨cb, ob, none⟩) nn nc, .int .i64 (s0 : Int), .slice (some ⟨cp, op, none⟩) pn pc] T (bl endsW ++ nontMw sp (j + 1) (sp.nam.drop (j + 1)) ny)) := by
            have h := hY.out.1
            rw [hno] at h
            exact h
          have HWE := hide1 hY.out.2
          have HNY2 := hide1 hny2
          clear hY hno hny1 hny2
          clear hlp hpl hpe hpi hdr hpj hrt hrn
          go_wp2_with (go_at_call 58; go_must (refine (ls_write (s := endsW) HLE.out (by decide) HTL.out).mono ?_; rintro e w8 ⟨rfl, hl8, hw8⟩; have HL8 := hide1 hl8; have HW8 := hide1 (hw8 _ _ _ HWE.out); clear hl8 hw8))
          refine ⟨⟨j + 1, ny, by rfl, by rfl, HI2.out, HNY2.out, HL8.out, HW8.out⟩, ?_⟩
          have := HI2.out
          simp [intOf]; omega
        have ep : (pl == (j : Int)) = true := by simpa using hpj
        have hsd := side_yes (sp := sp) (f := decide (ny = nx)) (p := (pl, row)) (ps := sp.prd.drop (ny + 1)) hpj
        rw [← hdr] at hsd
        dsimp only at hsd
        obtain ⟨R4, hR4⟩ : ∃ R4, (sideMw sp (j : Int) false (sp.prd.drop (ny + 1))).1 ++ (bl endsW ++ nontMw sp (j + 1) (sp.nam.drop (j + 1)) (ny + ((sideMw sp (j : Int) false (sp.prd.drop (ny + 1))).2 + 1))) = R4 := ⟨_, rfl⟩
        have HLA : Hid (LsI w wr b g2 #[.slice la ln lc, .slice (some ⟨cb, ob, none⟩) nn nc, .int .i64 (s0 : Int), .slice (some ⟨cp, op, none⟩) pn pc] T ((if decide (ny = nx) = true then [] else bl barW) ++ (rowM sp row ++ R4))) := by
          have h := hY.out.1
          rw [hsd] at h
          refine h.re ?_
          rw [← hR4, List.append_assoc, List.append_assoc]
        have HR4 := hide1 hR4
        have HWA := hide1 hY.out.2
        have HNY1 := hide1 hny1
        have HNY2 := hide1 hlp
        clear hY hsd hR4 hpl hpe hpi hdr hpj hrt hrn hny2 hlp
        by_cases hf : ny = nx
        · have HLB : Hid (LsI w wr b g2 #[.slice la ln lc, .slice (some ⟨cb, ob, none⟩) nn nc, .int .i64 (s0 : Int), .slice (some ⟨cp, op, none⟩) pn pc] T (rowM sp row ++ R4)) := by
            have h := HLA.out
            rw [decide_eq_true hf, if_pos rfl, List.nil_append] at h
            exact h
          have eF : ¬ ((nx : Int) < (ny : Int)) := by omega
          clear HLA hf hny1
          go_upto_region 18 with fail
          clear m3 q0
          have m3 : wr.cell? ⟨g2, 3, none⟩ = some (.slice (some ⟨cp, op, none⟩) pn pc) := by have := HLB.out.box; simp [World.cell?, this]
          have q1 := grown_cell (HLB.out.kept) qq1
          go_wp2_with fail
          clear m3 q1
          go_loopw [82] (fun v82 wr => ∃ t : Nat, v82 = .int .i64 (t : Int) ∧ t ≤ rn ∧ Hid (LsI w wr b g2 #[.slice la ln lc, .slice (some ⟨cb, ob, none⟩) nn nc, .int .i64 (s0 : Int), .slice (some ⟨cp, op, none⟩) pn pc] T (rowM sp (row.drop t) ++ R4) ∧ LO strE wr bx2 (.slice wa wn wc) (namesM sp))) (fun v82 _ => rn - (intOf v82).toNat)
          case atStart => exact ⟨0, rfl, Nat.zero_le _, HLB.out, HWA.out⟩
          case round =>
            clear HLB HWA
            obtain ⟨t, rfl, ht, hZ⟩ := hrel
            by_cases htl : t < rn
            case neg =>
              have HLE : Hid (LsI w wr b g2 #[.slice la ln lc, .slice (some ⟨cb, ob, none⟩) nn nc, .int .i64 (s0 : Int), .slice (some ⟨cp, op, none⟩) pn pc] T R4) := by
                have h := hZ.out.1
                rw [List.drop_eq_nil_of_le (by rw [HRN.out]; omega)] at h
                exact h
              have HWE := hide1 hZ.out.2
              have eT : ¬ ((t : Int) < (rn : Int)) := by omega
              clear hZ htl ht
              go_wp2_with fail
              refine ⟨⟨ny + 1, by rfl, by have := HNY1.out; omega, HNY2.out, ?_, HWE.out⟩, ?_⟩
              · rw [decide_eq_false (show ¬ ny + 1 = nx by have := HNY1.out; omega)]
                refine HLE.out.re ?_
                rw [← HR4.out, show ny + ((sideMw sp (j : Int) false (sp.prd.drop (ny + 1))).2 + 1) = ny + 1 + (sideMw sp (j : Int) false (sp.prd.drop (ny + 1))).2 by omega]
              · have := HNY2.out
                simp [intOf]; omega
            have htr : t < row.length := by rw [HRN.out]; exact htl
            obtain ⟨y, hye⟩ : ∃ y, row[t]'htr = y := ⟨_, rfl⟩
            have hyi : row[t]? = some y := by rw [List.getElem?_eq_getElem htr, hye]
            have hns : noSym sp.lex.length sp.nam.length y = false := HNO.out y (List.mem_of_getElem? hyi)
            obtain ⟨wd, hwi, hws⟩ := symM_at hns
            obtain ⟨⟨hy0, hy1⟩, hn0, hn1⟩ := noSym_ok hns
            rw [HLN.out, HNN.out] at hy1 hn1
            rw [HLN.out] at hwi hn0
            have HLS : Hid (LsI w wr b g2 #[.slice la ln lc, .slice (some ⟨cb, ob, none⟩) nn nc, .int .i64 (s0 : Int), .slice (some ⟨cp, op, none⟩) pn pc] T (bl (blankW ++ wd) ++ (rowM sp (row.drop (t + 1)) ++ R4))) := by
              have h := hZ.out.1
              rw [List.drop_eq_getElem_cons htr, hye, rowM_cons, hws, List.append_assoc] at h
              exact h
            obtain ⟨ga, hga⟩ := LO.some hZ.out.2 (fun e => by rw [e] at hwi; cases hwi)
            subst hga
            obtain ⟨nu, hnu⟩ : ∃ nu : Nat, numM ln y = (nu : Int) := ⟨(numM ln y).toNat, by omega⟩
            rw [hnu, Int.toNat_natCast] at hwi
            have hnw : nu < wn := by rw [← lo_lens hZ.out.2]; exact (List.getElem?_eq_some_iff.1 hwi).1
            have hwc : wn ≤ wc := by have := LO.cap hZ.out.2; rw [lo_lens hZ.out.2] at this; exact this
            have kw : wr.cell? ⟨ga, nu, none⟩ = some (.string wd) := by
              have h := LO.cell (E := strE) hZ.out.2 hwi (j := 0) rfl
              have e : nu * strE.sz + 0 = nu := by show nu * 1 + 0 = nu; omega
              rw [e] at h
              exact h
            obtain ⟨cr, or, cs, hra, _, _, hcell, hcs⟩ := SliceOf.el0 HRT.out hyi
            have hcs : cs = [.int .i64 y.1, .int .i64 y.2] := hcs
            subst hra hcs
            have z0 := grown_cell hZ.out.1.kept (hcell 0 _ rfl)
            have z1 := grown_cell hZ.out.1.kept (hcell 1 _ rfl)
            rw [Nat.add_zero] at z0
            have HSZ : Hid (0 < (blankW ++ wd).size) := by
              show 0 < ByteArray.size _
              rw [ByteArray.size_append]
              have h6 : blankW.size = 1 := rfl
              omega
            have gwz : (wd.size : Int) ≤ 64 := by
              have := HGD.out.word (List.mem_of_getElem? hwi)
              omega
            obtain ⟨kd, kn⟩ := y
            dsimp only at hy0 hy1 z0 z1
            have HNU := hide1 (fun w => number_is ln kd kn (by omega) ⟨hy0, by omega⟩ w)
            rw [hnu] at HNU
            have eT : (t : Int) < (rn : Int) := by omega
            have gtc : (t : Int) < (rc : Int) := by have := HRC.out; omega
            have gnw : (nu : Int) < (wn : Int) := by omega
            have gnc : (nu : Int) < (wc : Int) := by omega
            have HT2 := hide1 htl
            have HLA := hide1 (HLS.out.keep ((Kept.refl wr).alloc #[.int .i64 kd, .int .i64 kn] 77))
            have HWA := hide1 (hZ.out.2.keep ((Kept.refl wr).alloc #[.int .i64 kd, .int .i64 kn] 77))
            have HSY := hide1 (sy_new wr kd kn)
            have kw := grown_cell ((Kept.refl wr).alloc #[.int .i64 kd, .int .i64 kn] 77) kw
            clear hZ htl ht hye hyi htr hns hwi hws hn0 hn1 hnu hnw hwc hcell HLS hy0 hy1
            go_upto_region 21 with fail
            obtain ⟨g14, hg14⟩ : ∃ g, wr.heap.size = g := ⟨_, rfl⟩
            generalize wr.alloc (.cells #[.int .i64 kd, .int .i64 kn] 77) = W2 at HLA HWA HSY kw ⊢
            rw [hg14] at HSY ⊢
            clear hg14 z0 z1
            obtain ⟨⟨s0', s1'⟩, -⟩ := HSY.out.facts
            have m0 : W2.cell? ⟨g2, 0, none⟩ = some (.slice la ln lc) := by have := HLA.out.box; simp [World.cell?, this]
            go_wp2_with (first
              | (go_at_call 60; go_must (refine (HNU.out _).mono ?_; rintro e w7 ⟨rfl, hk7⟩; have kw7 := grown_cell hk7 kw; have HL7 := hide1 (HLA.out.keep hk7); have HW7 := hide1 (HWA.out.keep hk7); clear hk7))
              | (go_at_call 58; go_must (refine (ls_write (s := blankW ++ wd) HL7.out HSZ.out HTL.out).mono ?_; rintro e w8 ⟨rfl, hl8, hw8⟩; have HL8 := hide1 hl8; have HW8 := hide1 (hw8 _ _ _ HW7.out); clear hl8 hw8)))
            refine ⟨⟨t + 1, by rfl, HT2.out, HL8.out, HW8.out⟩, ?_⟩
            have := HT2.out
            simp [intOf]; omega
        · have HLB : Hid (LsI w wr b g2 #[.slice la ln lc, .slice (some ⟨cb, ob, none⟩) nn nc, .int .i64 (s0 : Int), .slice (some ⟨cp, op, none⟩) pn pc] T (bl barW ++ (rowM sp row ++ R4))) := by
            have h := HLA.out
            rw [decide_eq_false hf, if_neg (by decide)] at h
            exact h
          have eF : (nx : Int) < (ny : Int) := by omega
          clear HLA hf hny1
          go_upto_region 18 with (go_at_call 58; go_must (refine (ls_write (s := barW) HLB.out (by decide) HTL.out).mono ?_; rintro e w8 ⟨rfl, hl8, hw8⟩; have HL8 := hide1 hl8; have HW8 := hide1 (hw8 _ _ _ HWA.out); clear hl8 hw8))
          clear m3 q0 HLB HWA
          have m3 : w8.cell? ⟨g2, 3, none⟩ = some (.slice (some ⟨cp, op, none⟩) pn pc) := by have := HL8.out.box; simp [World.cell?, this]
          have q1 := grown_cell (HL8.out.kept) qq1
          go_wp2_with fail
          clear m3 q1
          go_loopw [82] (fun v82 wr => ∃ t : Nat, v82 = .int .i64 (t : Int) ∧ t ≤ rn ∧ Hid (LsI w wr b g2 #[.slice la ln lc, .slice (some ⟨cb, ob, none⟩) nn nc, .int .i64 (s0 : Int), .slice (some ⟨cp, op, none⟩) pn pc] T (rowM sp (row.drop t) ++ R4) ∧ LO strE wr bx2 (.slice wa wn wc) (namesM sp))) (fun v82 _ => rn - (intOf v82).toNat)
          case atStart => exact ⟨0, rfl, Nat.zero_le _, HL8.out, HW8.out⟩
          case round =>
            clear HL8 HW8
            obtain ⟨t, rfl, ht, hZ⟩ := hrel
            by_cases htl : t < rn
            case neg =>
              have HLE : Hid (LsI w wr b g2 #[.slice la ln lc, .slice (some ⟨cb, ob, none⟩) nn nc, .int .i64 (s0 : Int), .slice (some ⟨cp, op, none⟩) pn pc] T R4) := by
                have h := hZ.out.1
                rw [List.drop_eq_nil_of_le (by rw [HRN.out]; omega)] at h
                exact h
              have HWE := hide1 hZ.out.2
              have eT : ¬ ((t : Int) < (rn : Int)) := by omega
              clear hZ htl ht
              go_wp2_with fail
              refine ⟨⟨ny + 1, by rfl, by have := HNY1.out; omega, HNY2.out, ?_, HWE.out⟩, ?_⟩
              · rw [decide_eq_false (show ¬ ny + 1 = nx by have := HNY1.out; omega)]
                refine HLE.out.re ?_
                rw [← HR4.out, show ny + ((sideMw sp (j : Int) false (sp.prd.drop (ny + 1))).2 + 1) = ny + 1 + (sideMw sp (j : Int) false (sp.prd.drop (ny + 1))).2 by omega]
              · have := HNY2.out
                simp [intOf]; omega
            have htr : t < row.length := by rw [HRN.out]; exact htl
            obtain ⟨y, hye⟩ : ∃ y, row[t]'htr = y := ⟨_, rfl⟩
            have hyi : row[t]? = some y := by rw [List.getElem?_eq_getElem htr, hye]
            have hns : noSym sp.lex.length sp.nam.length y = false := HNO.out y (List.mem_of_getElem? hyi)
            obtain ⟨wd, hwi, hws⟩ := symM_at hns
            obtain ⟨⟨hy0, hy1⟩, hn0, hn1⟩ := noSym_ok hns
            rw [HLN.out, HNN.out] at hy1 hn1
            rw [HLN.out] at hwi hn0
            have HLS : Hid (LsI w wr b g2 #[.slice la ln lc, .slice (some ⟨cb, ob, none⟩) nn nc, .int .i64 (s0 : Int), .slice (some ⟨cp, op, none⟩) pn pc] T (bl (blankW ++ wd) ++ (rowM sp (row.drop (t + 1)) ++ R4))) := by
              have h := hZ.out.1
              rw [List.drop_eq_getElem_cons htr, hye, rowM_cons, hws, List.append_assoc] at h
              exact h
            obtain ⟨ga, hga⟩ := LO.some hZ.out.2 (fun e => by rw [e] at hwi; cases hwi)
            subst hga
            obtain ⟨nu, hnu⟩ : ∃ nu : Nat, numM ln y = (nu : Int) := ⟨(numM ln y).toNat, by omega⟩
            rw [hnu, Int.toNat_natCast] at hwi
            have hnw : nu < wn := by rw [← lo_lens hZ.out.2]; exact (List.getElem?_eq_some_iff.1 hwi).1
            have hwc : wn ≤ wc := by have := LO.cap hZ.out.2; rw [lo_lens hZ.out.2] at this; exact this
            have kw : wr.cell? ⟨ga, nu, none⟩ = some (.string wd) := by
              have h := LO.cell (E := strE) hZ.out.2 hwi (j := 0) rfl
              have e : nu * strE.sz + 0 = nu := by show nu * 1 + 0 = nu; omega
              rw [e] at h
              exact h
            obtain ⟨cr, or, cs, hra, _, _, hcell, hcs⟩ := SliceOf.el0 HRT.out hyi
            have hcs : cs = [.int .i64 y.1, .int .i64 y.2] := hcs
            subst hra hcs
            have z0 := grown_cell hZ.out.1.kept (hcell 0 _ rfl)
            have z1 := grown_cell hZ.out.1.kept (hcell 1 _ rfl)
            rw [Nat.add_zero] at z0
            have HSZ : Hid (0 < (blankW ++ wd).size) := by
              show 0 < ByteArray.size _
              rw [ByteArray.size_append]
              have h6 : blankW.size = 1 := rfl
              omega
            have gwz : (wd.size : Int) ≤ 64 := by
              have := HGD.out.word (List.mem_of_getElem? hwi)
              omega
            obtain ⟨kd, kn⟩ := y
            dsimp only at hy0 hy1 z0 z1
            have HNU := hide1 (fun w => number_is ln kd kn (by omega) ⟨hy0, by omega⟩ w)
            rw [hnu] at HNU
            have eT : (t : Int) < (rn : Int) := by omega
            have gtc : (t : Int) < (rc : Int) := by have := HRC.out; omega
            have gnw : (nu : Int) < (wn : Int) := by omega
            have gnc : (nu : Int) < (wc : Int) := by omega
            have HT2 := hide1 htl
            have HLA := hide1 (HLS.out.keep ((Kept.refl wr).alloc #[.int .i64 kd, .int .i64 kn] 77))
            have HWA := hide1 (hZ.out.2.keep ((Kept.refl wr).alloc #[.int .i64 kd, .int .i64 kn] 77))
            have HSY := hide1 (sy_new wr kd kn)
            have kw := grown_cell ((Kept.refl wr).alloc #[.int .i64 kd, .int .i64 kn] 77) kw
            clear hZ htl ht hye hyi htr hns hwi hws hn0 hn1 hnu hnw hwc hcell HLS hy0 hy1
            go_upto_region 21 with fail
            obtain ⟨g14, hg14⟩ : ∃ g, wr.heap.size = g := ⟨_, rfl⟩
            generalize wr.alloc (.cells #[.int .i64 kd, .int .i64 kn] 77) = W2 at HLA HWA HSY kw ⊢
            rw [hg14] at HSY ⊢
            clear hg14 z0 z1
            obtain ⟨⟨s0', s1'⟩, -⟩ := HSY.out.facts
            have m0 : W2.cell? ⟨g2, 0, none⟩ = some (.slice la ln lc) := by have := HLA.out.box; simp [World.cell?, this]
            go_wp2_with (first
              | (go_at_call 60; go_must (refine (HNU.out _).mono ?_; rintro e w7 ⟨rfl, hk7⟩; have kw7 := grown_cell hk7 kw; have HL7 := hide1 (HLA.out.keep hk7); have HW7 := hide1 (HWA.out.keep hk7); clear hk7))
              | (go_at_call 58; go_must (refine (ls_write (s := blankW ++ wd) HL7.out HSZ.out HTL.out).mono ?_; rintro e w8 ⟨rfl, hl8, hw8⟩; have HL8 := hide1 hl8; have HW8 := hide1 (hw8 _ _ _ HW7.out); clear hl8 hw8)))
            refine ⟨⟨t + 1, by rfl, HT2.out, HL8.out, HW8.out⟩, ?_⟩
            have := HT2.out
            simp [intOf]; omega
end Gu
end Ex
end Go.Proofs.YtbnchnlogikecaaGreatDoor
