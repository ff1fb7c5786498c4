import Derived.Test.YtbnchnlogikecaaGreatDoorPGxD
import Derived.Test.YtbnchnlogikecaaGreatDoorPGuE
import Derived.Test.YtbnchnlogikecaaGreatDoorPSpSz2
import Derived.Test.YtbnchnlogikecaaGreatDoorCards
import Derived.Test.YtbnchnlogikecaaGreatDoorTie
import Derived.WalkKit
import Derived.ShutString
import Derived.ChangeOld
import Derived.Below
import Derived.JoinedCond
namespace Go.Proofs.YtbnchnlogikecaaGreatDoor
open Go.RowKit
attribute [local go_sem] Oper.semAt_some
set_option linter.unusedVariables false
set_option linter.unusedSimpArgs false
set_option maxRecDepth 100000
set_option maxHeartbeats 4000000
namespace Ex
namespace Gu
open Sh Gs
theorem NmJ.box {w wr : World} {g : Nat} {y0 y1 y2 y3 v : Value} {l : List ByteArray} (h : NmJ w g #[y0, y1, y2, y3] v l wr) : wr.cell? ⟨g, 0, none⟩ = some y0 ∧ wr.cell? ⟨g, 1, none⟩ = some y1 := by
  have := h.2
  simp [World.cell?, this]
theorem refNames_is (la na : Option Addr) (ln lc nn nc : Nat) (vp : Value) (sp : SpV) (st : Int) (w : World) (hr1 : SliceOf w 8 (LexE w) (.slice la ln lc) sp.lex) (hr2 : NamesAt w (.slice na nn nc) sp.nam) (hb : ln + 2 + nn ≤ 8000000000000) :
    Calls Tryz.prog 19 #[.agg #[.slice la ln lc, .slice na nn nc, .int .i64 st, vp]] w fun e w' => ∃ a c, e = .returned (.slice a (namesM sp).length c) ∧ LO strE w' w.heap.size (.slice a (namesM sp).length c) (namesM sp) ∧ Kept w w' := by
  obtain ⟨lx, nms, st0, ps⟩ := sp
  dsimp only at hr1 hr2 ⊢
  obtain ⟨hln, hlc, -⟩ := slice_n hr1
  obtain ⟨hnn, hnc, -⟩ := slice_n hr2
  have HNL : Hid (namesM ⟨lx, nms, st0, ps⟩ = lx.map (·.1) ++ [errW, endW] ++ nms) := rfl
  obtain ⟨NM, hNM⟩ : ∃ x, namesM ⟨lx, nms, st0, ps⟩ = x := ⟨_, rfl⟩
  rw [hNM] at HNL ⊢
  have HLN := hide1 hln
  have HNN := hide1 hnn
  have HR1 := hide1 hr1
  have HR2 := hide1 hr2
  have HB := hide1 hb
  have hbI : (ln : Int) + 2 + (nn : Int) ≤ 8000000000000 := by omega
  have HBX : Hid ((w.alloc (.cells #[.slice la ln lc, .slice na nn nc, .int .i64 st, vp] 27)).heap[w.heap.size]? = some (.cells #[.slice la ln lc, .slice na nn nc, .int .i64 st, vp] 27 (0, 0))) := heap_alloc_new w _
  have HK1 := hide1 ((Kept.refl w).alloc #[.slice la ln lc, .slice na nn nc, .int .i64 st, vp] 27)
  clear hr1 hr2 hln hnn hNM hb
  go_enter Tryz.func19, Tryz.ntmps19
  go_upto_region 1 with fail
  obtain ⟨g1, hg1⟩ : ∃ g, w.heap.size = g := ⟨_, rfl⟩
  have HG1 := hide1 hg1
  generalize w.alloc (.cells #[.slice la ln lc, .slice na nn nc, .int .i64 st, vp] 27) = W1 at HBX HK1 ⊢
  rw [hg1] at HBX ⊢
  clear hg1
  have HN1 : Hid (NmJ w g1 #[.slice la ln lc, .slice na nn nc, .int .i64 st, vp] (.slice none 0 0) [] W1) := ⟨⟨LO.nil _ _, HK1.out⟩, HBX.out⟩
  clear HBX HK1
  go_wp2_with fail
  go_loopw [3, 4] (fun v3 v4 wr => ∃ (i : Nat) (ga : Option Addr) (gc : Nat), v4 = .int .i64 (i : Int) ∧ v3 = .slice ga i gc ∧ i ≤ ln ∧ Hid (NmJ w g1 #[.slice la ln lc, .slice na nn nc, .int .i64 st, vp] (.slice ga i gc) ((lx.take i).map (·.1)) wr)) (fun _ v4 _ => ln - (intOf v4).toNat)
  case atStart => exact ⟨0, _, _, rfl, rfl, Nat.zero_le _, HN1.out⟩
  case round =>
    clear HN1
    obtain ⟨i, ga, gc, rfl, rfl, hi, hI⟩ := hrel
    obtain ⟨b0, b1⟩ := hI.out.box
    by_cases hlt : i < ln
    · have hil : i < lx.length := by rw [HLN.out]; exact hlt
      obtain ⟨x, hxe⟩ : ∃ x, lx[i]'hil = x := ⟨_, rfl⟩
      have hxi : lx[i]? = some x := by rw [List.getElem?_eq_getElem hil, hxe]
      obtain ⟨cb, ob, cs, hla, _, _, hcell, v', hcs, hsz, hkd⟩ := SliceOf.el0 HR1.out hxi
      subst hla hcs
      have HTK : Hid ((lx.take i).map (·.1) ++ [x.1] = (lx.take (i + 1)).map (·.1)) := by
        show _ = _
        rw [List.take_add_one, hxi, List.map_append]
        rfl
      have k0 := grown_cell hI.out.1.2 (hcell 0 _ rfl)
      obtain ⟨nm, tr, n, pt⟩ := x
      dsimp only at k0 HTK hsz
      rw [Nat.add_zero] at k0
      have eI : (i : Int) < (ln : Int) := by omega
      have gjc : (i : Int) < (lc : Int) := by omega
      have HI2 := hide1 hlt
      have HLI := hide1 hI.out.1.len
      have HC3 := hide1 (hI.out.keep ((Kept.refl wr).alloc (encStr nm).toArray 9))
      clear hI hlt hi hxe hxi hil hkd hcell hsz
      go_wp2_with (at_builtin; refine wpl_lo (E := strE) rfl _ _ rfl w.heap.size (.slice ga i gc) _ i HLI.out (by rfl) HC3.out.1.1 wr.heap.size nm (by rfl) (heap_alloc_new wr _) (by show (i + 1) * 16 ≤ _; have := HI2.out; have := HB.out; omega) (by unfold maxLen; have := HI2.out; have := HB.out; omega) HC3.out.1.2.size ?_; intro g9 c9 w9 ho9 hg9 hor9 hl9; have HC9 := hide1 (HC3.out.grow ho9 hg9); clear ho9 hg9 hor9 hl9)
      have hlt := HI2.out
      go_roundw
      case rel => exact ⟨i + 1, _, _, by go_num, rfl, by omega, by rw [← HTK.out]; exact HC9.out⟩
      case measure => simp [intOf]; omega
    have hil : i = ln := by omega
    have HI := hI
    have HL1 : Hid ((lx.take i).map (·.1) = lx.map (·.1)) := by show _ = _; rw [List.take_of_length_le (by rw [HLN.out]; omega)]
    rw [HL1.out] at HI
    have HLL := hide1 (show (lx.map (·.1)).length = ln by rw [List.length_map]; exact HLN.out)
    subst hil
    have eI : ¬ ((i : Int) < (i : Int)) := by omega
    clear hI HL1 hlt hi
    go_upto_region 6 with fail
    have HI2 := hide1 (HI.out.keep ((Kept.refl wr).alloc #[.string errW, .string endW] 9))
    clear HI b0 b1
    go_upto_region 7 with (at_builtin; refine wpl_many (E := strE) rfl _ _ rfl w.heap.size (.slice ga i gc) _ [errW, endW] i 2 (i + 2) HLL.out rfl rfl (by rfl) HI2.out.1.1 (some ⟨wr.heap.size, 0, none⟩) 2 (by rfl) two_src (by show (i + 2) * 16 ≤ _; have := HB.out; omega) (by unfold maxLen; have := HB.out; omega) HI2.out.1.2.size ?_; intro ga5 gc5 w5 ho5 hg5 hor5; have HI5 := hide1 (HI2.out.grow ho5 hg5); clear ho5 hg5 hor5)
    clear HI2
    go_wp2_with fail
    go_loopw [3, 5] (fun v3 v5 wr => ∃ (j : Nat) (ga : Option Addr) (gc : Nat), v5 = .int .i64 (j : Int) ∧ v3 = .slice ga (i + 2 + j) gc ∧ j ≤ nn ∧ Hid (NmJ w g1 #[.slice la i lc, .slice na nn nc, .int .i64 st, vp] (.slice ga (i + 2 + j) gc) (lx.map (·.1) ++ [errW, endW] ++ nms.take j) wr)) (fun _ v5 _ => nn - (intOf v5).toNat)
    case atStart => exact ⟨0, _, _, rfl, rfl, Nat.zero_le _, by rw [List.take_zero, List.append_nil]; exact HI5.out⟩
    case round =>
      clear HI5
      obtain ⟨j, ga, gc, rfl, rfl, hj, hJ⟩ := hrel
      obtain ⟨b0, b1⟩ := hJ.out.box
      by_cases hlt : j < nn
      · have hjl : j < nms.length := by rw [HNN.out]; exact hlt
        obtain ⟨nm, hxe⟩ : ∃ x, nms[j]'hjl = x := ⟨_, rfl⟩
        have hxi : nms[j]? = some nm := by rw [List.getElem?_eq_getElem hjl, hxe]
        obtain ⟨cb, ob, hna, k0, hsz⟩ := names_el HR2.out hxi
        subst hna
        have HTK : Hid (lx.map (·.1) ++ [errW, endW] ++ nms.take j ++ [nm] = lx.map (·.1) ++ [errW, endW] ++ nms.take (j + 1)) := by
          show _ = _
          rw [List.take_add_one, hxi, List.append_assoc _ (nms.take j)]
          rfl
        have k0 := grown_cell hJ.out.1.2 k0
        have eJ : (j : Int) < (nn : Int) := by omega
        have gjc : (j : Int) < (nc : Int) := by omega
        have HI2 := hide1 hlt
        have HLJ := hide1 hJ.out.1.len
        have HC3 := hide1 (hJ.out.keep ((Kept.refl wr).alloc (encStr nm).toArray 9))
        clear hJ hlt hj hxe hxi hjl hsz
        go_wp2_with (at_builtin; refine wpl_lo (E := strE) rfl _ _ rfl w.heap.size (.slice ga (i + 2 + j) gc) _ (i + 2 + j) HLJ.out (by rfl) HC3.out.1.1 wr.heap.size nm (by rfl) (heap_alloc_new wr _) (by show (i + 2 + j + 1) * 16 ≤ _; have := HI2.out; have := HB.out; omega) (by unfold maxLen; have := HI2.out; have := HB.out; omega) HC3.out.1.2.size ?_; intro g9 c9 w9 ho9 hg9 hor9 hl9; have HC9 := hide1 (HC3.out.grow ho9 hg9); clear ho9 hg9 hor9 hl9)
        have hlt := HI2.out
        go_roundw
        case rel => exact ⟨j + 1, _, _, by go_num, rfl, by omega, by have h := HC9.out; rw [HTK.out] at h; exact h⟩
        case measure => simp [intOf]; omega
      have hjn : j = nn := by omega
      subst hjn
      have HJ := hJ
      have HE : Hid (lx.map (·.1) ++ [errW, endW] ++ nms.take j = NM) := by
        show _ = _
        rw [HNL.out, List.take_of_length_le (by rw [HNN.out]; omega)]
      rw [HE.out] at HJ
      have eJ : ¬ ((j : Int) < (j : Int)) := by omega
      clear hJ HE hlt hj
      go_wp2_with fail
      go_ret
      have hl : NM.length = i + 2 + j := HJ.out.1.len
      rw [hl]
      exact ⟨ga, gc, rfl, HJ.out.1.1, HJ.out.1.2⟩
theorem head_write : writeM (spec0 (parseM ⟨#[97]⟩).1) = (out0, (0, 0, ⟨#[]⟩)) := by kernel_rfl
theorem head_ok : ∃ s0, parseG text0 = .ok s0 ∧ spv s0 = spec0 (parseM ⟨#[97]⟩).1 := by
  have h := head_parse
  cases hp : parseG text0 with
  | error f => rw [hp] at h; cases h
  | ok s0 =>
    rw [hp] at h
    exact ⟨s0, rfl, Option.some.inj h⟩
theorem head_read {base : Nat} {w : World} {v : Value} {s0 : RSt} (h : SpO base w v s0) (hs : spv s0 = spec0 (parseM ⟨#[97]⟩).1) : ∃ la lc na nc pa pc, v = .agg #[.slice la 1 lc, .slice na 1 nc, .int .i64 0, .slice pa 2 pc] ∧ SpR w (.slice la 1 lc) (.slice na 1 nc) (.slice pa 2 pc) (spec0 (parseM ⟨#[97]⟩).1) := by
  have hl : s0.lex = [(⟨#[120]⟩, false, (parseM ⟨#[97]⟩).1)] := congrArg SpV.lex hs
  have hn : s0.nam = [⟨#[65]⟩] := congrArg SpV.nam hs
  have hz : s0.prd.zip s0.sds = [(0, [(1, 0)]), (0, [])] := congrArg SpV.prd hs
  have hlen : s0.sds.length = s0.prd.length := by
    obtain ⟨xL, xN, xP, its, ps, ρ, rfl, hL, hLR, hN, hPp, hPR, _⟩ := h
    exact hPR.lens
  have hp2 : s0.prd.length = 2 := by
    have := congrArg List.length hz
    rw [List.length_zip, hlen, Nat.min_self] at this
    exact this
  obtain ⟨vl, vn, vp, rfl, h1, h2, h3⟩ := SpO.rd h (by rw [hl]; decide) (by rw [hn]; decide) (by rw [hp2]; decide) (fun ys hy => by
    obtain ⟨i, hi⟩ := List.getElem?_of_mem hy
    have hil := (List.getElem?_eq_some_iff.1 hi).1
    have h4 : (s0.prd.zip s0.sds)[i]? = some ((s0.prd[i]'(by omega)), ys) := List.getElem?_zip_eq_some.2 ⟨List.getElem?_eq_getElem _, hi⟩
    rw [hz] at h4
    have h5 := List.mem_of_getElem? h4
    rcases List.mem_cons.1 h5 with e | h5
    · rw [show ys = [(1, 0)] from congrArg Prod.snd e]; decide
    · rcases List.mem_cons.1 h5 with e | h5
      · rw [show ys = [] from congrArg Prod.snd e]; decide
      · cases h5) (fun x hx => by rw [hl] at hx; rcases List.mem_cons.1 hx with rfl | hx; (show ByteArray.size _ ≤ _; decide); cases hx) (fun x hx => by rw [hn] at hx; rcases List.mem_cons.1 hx with rfl | hx; (show ByteArray.size _ ≤ _; decide); cases hx)
  rw [hs] at h1 h2 h3 ⊢
  obtain ⟨la, lc, rfl, _⟩ := SliceOf.len0 h1
  obtain ⟨na, nc, rfl, _⟩ := SliceOf.len0 h2
  obtain ⟨pa, pc, rfl, _⟩ := SliceOf.len0 h3
  exact ⟨la, lc, na, nc, pa, pc, rfl, h1, h2, h3⟩
theorem head_is6 (w : World) (hP : PowAt w) :
    Calls Tryz.prog 9 #[] w fun e w' => e = .returned (.bool true) ∧ Kept w w' := by
  have HPR := hide1 (Parse_isG text0 w)
  obtain ⟨s0, hps, hsv⟩ := head_ok
  rw [hps] at HPR
  have HSV := hide1 hsv
  have HPW := hide1 hP
  have HPT : Hid (∀ (la na pa : Option Addr) (lc nc pc : Nat) (w1 : World), Kept w w1 → SpR w1 (.slice la 1 lc) (.slice na 1 nc) (.slice pa 2 pc) (spec0 (parseM ⟨#[97]⟩).1) → Calls Tryz.prog 13 #[.agg #[.slice la 1 lc, .slice na 1 nc, .int .i64 0, .slice pa 2 pc]] w1 fun e w' => e = .returned (.tuple #[.string ⟨#[116, 111, 107, 101, 110, 32, 120, 32, 61, 32, 47, 97, 47, 59, 10, 115, 116, 97, 114, 116, 32, 65, 59, 10, 65, 32, 61, 32, 120, 32, 124, 59, 10]⟩, .int .i64 0]) ∧ Kept w1 w') := fun la na pa lc nc pc w1 hk hr => by
    have h := PrintS_is la na pa 1 lc 1 nc 2 pc (spec0 (parseM ⟨#[97]⟩).1) w1 hr (HPW.out.keep hk)
    rw [head_write] at h
    exact h
  have hfn : ∀ w : World, (binOp .neq 30 (.agg #[.int .i64 0, .int .i64 0, .string ⟨#[]⟩]) (.agg #[.int .i64 0, .int .i64 0, .string ⟨#[]⟩])).run Tryz.prog w = .ok (.bool false) w := fun w => by kernel_rfl
  clear hps hsv hP
  go_enter Tryz.func9, Tryz.ntmps9
  go_wp2_with fail
  go_at_call 10
  refine HPR.out.mono ?_
  rintro e w1 ⟨hk1, v, rfl, hv⟩
  obtain ⟨la, lc, na, nc, pa, pc, rfl, hr⟩ := head_read hv HSV.out
  unfold okV
  have HK1 := hide1 ((hk1.alloc #[.slice la 1 lc, .slice na 1 nc, .int .i64 0, .slice pa 2 pc] 27).alloc #[.int .i64 0, .int .i64 0, .string ⟨#[]⟩] 30)
  have HR1 := hide1 (hr.keep (((Kept.refl w1).alloc #[.slice la 1 lc, .slice na 1 nc, .int .i64 0, .slice pa 2 pc] 27).alloc #[.int .i64 0, .int .i64 0, .string ⟨#[]⟩] 30))
  have HB1 : Hid (ResB ((w1.alloc (.cells #[.slice la 1 lc, .slice na 1 nc, .int .i64 0, .slice pa 2 pc] 27)).alloc (.cells #[.int .i64 0, .int .i64 0, .string ⟨#[]⟩] 30)) w1.heap.size (w1.heap.size + 1) (.slice la 1 lc) (.slice na 1 nc) (.int .i64 0) (.slice pa 2 pc) (.int .i64 0) (.int .i64 0) (.string ⟨#[]⟩)) := by
    refine ⟨by omega, (heap_alloc_old _ _ (by simp)).trans (heap_alloc_new w1 _), ?_⟩
    have h := heap_alloc_new (w1.alloc (.cells #[.slice la 1 lc, .slice na 1 nc, .int .i64 0, .slice pa 2 pc] 27)) (.cells #[.int .i64 0, .int .i64 0, .string ⟨#[]⟩] 30)
    rw [World.size_alloc] at h
    exact h
  clear hk1 hv hr HPR HSV
  go_upto_region 2 with fail
  obtain ⟨g2, hg2⟩ : ∃ g, w1.heap.size + 1 = g := ⟨_, rfl⟩
  rw [hg2] at HB1 ⊢
  clear hg2
  obtain ⟨g1, hg1⟩ : ∃ g, w1.heap.size = g := ⟨_, rfl⟩
  generalize (w1.alloc (.cells #[.slice la 1 lc, .slice na 1 nc, .int .i64 0, .slice pa 2 pc] 27)).alloc (.cells #[.int .i64 0, .int .i64 0, .string ⟨#[]⟩] 30) = W1 at HK1 HR1 HB1 ⊢
  rw [hg1] at HB1 ⊢
  clear hg1
  obtain ⟨⟨a0, a1, a2, a3⟩, ⟨b0, b1, b2⟩, -⟩ := HB1.out.facts
  obtain ⟨cp, op, ra, rc, hpa, q0, q1, -⟩ := prods_el (i := 0) (p := (0, [(1, 0)])) HR1.out.2.2 rfl
  subst hpa
  have hpc := (slice_n HR1.out.2.2).2.1
  have q1 : W1.cell? ⟨cp, op + 1, none⟩ = some (.slice ra 1 rc) := q1
  have gpc : (0 : Int) < (pc : Int) := by omega
  clear q0
  go_upto_region 4 with fail
  go_upto_region 5 with (go_at_call 13; go_must (refine (HPT.out la na (some ⟨cp, op, none⟩) lc nc pc W1 HK1.out HR1.out).mono ?_; rintro e w2 ⟨rfl, hk2⟩; have HK2 := hide1 (gtrans HK1.out hk2)))
  go_wp2_with fail
  go_ret
  exact ⟨rfl, HK2.out⟩
end Gu
end Ex
end Go.Proofs.YtbnchnlogikecaaGreatDoor
namespace Go.Proofs.YtbnchnlogikecaaGreatDoor
open Go.RowKit
attribute [local go_sem] Oper.semAt_some
set_option linter.unusedVariables false
set_option linter.unusedSimpArgs false
set_option maxRecDepth 100000
set_option maxHeartbeats 8000000
namespace Ex
namespace Gu
open Sh Gs
theorem chP_len (ps : List ProdM) : (chP ps).length = ps.length := by
  unfold chP
  split
  · rfl
  · rw [List.length_set]
theorem szV_ch {sp : SpV} (h : SzV sp) : SzV (chM sp) := by
  obtain ⟨h1, h2, h3, h4⟩ := h
  refine ⟨by show (sp.lex.map chX).length * 88 ≤ _; rw [List.length_map]; exact h1, by show (sp.nam.map (· ++ zW)).length * 16 ≤ _; rw [List.length_map]; exact h2, by show (chP sp.prd).length * 32 ≤ _; rw [chP_len]; exact h3, ?_⟩
  intro p hp
  have hp2 : p ∈ chP sp.prd := hp
  unfold chP at hp2
  split at hp2
  · exact h4 p hp2
  · rcases List.mem_or_eq_of_mem_set hp2 with h | h
    · exact h4 p h
    · subst h
      show 1 * 16 ≤ _
      omega
theorem ch_lex {sp : SpV} {M : Nat} (h : ∀ x ∈ sp.lex, x.1.size ≤ M) : ∀ x ∈ (chM sp).lex, x.1.size ≤ M + 1 := by
  intro x hx
  have hx2 : x ∈ sp.lex.map chX := hx
  obtain ⟨y, hy, rfl⟩ := List.mem_map.1 hx2
  have := h y hy
  show (y.1 ++ zW).size ≤ _
  rw [ByteArray.size_append]
  have : zW.size = 1 := rfl
  omega
theorem ch_nam {sp : SpV} {M : Nat} (h : ∀ x ∈ sp.nam, x.size ≤ M) : ∀ x ∈ (chM sp).nam, x.size ≤ M + 1 := by
  intro x hx
  have hx2 : x ∈ sp.nam.map (· ++ zW) := hx
  obtain ⟨y, hy, rfl⟩ := List.mem_map.1 hx2
  have := h y hy
  show (y ++ zW).size ≤ _
  rw [ByteArray.size_append]
  have : zW.size = 1 := rfl
  omega
theorem names_len (sp : SpV) : (namesM sp).length = sp.lex.length + 2 + sp.nam.length := by
  unfold namesM
  simp
  omega
theorem names_sz {sp : SpV} {M : Nat} (hM : 5 ≤ M) (h5 : ∀ x ∈ sp.lex, x.1.size ≤ M) (h6 : ∀ x ∈ sp.nam, x.size ≤ M) : ∀ x ∈ namesM sp, x.size ≤ M := by
  intro x hx
  unfold namesM at hx
  rcases List.mem_append.1 hx with h | h
  · rcases List.mem_append.1 h with h | h
    · obtain ⟨y, hy, rfl⟩ := List.mem_map.1 h
      exact h5 y hy
    · have e1 : errW.size = 5 := rfl
      have e2 : endW.size = 3 := rfl
      rcases List.mem_cons.1 h with h | h
      · subst h; omega
      · rcases List.mem_cons.1 h with h | h
        · subst h; omega
        · cases h
  · exact h6 x h
theorem texts_lo {w : World} {b : Nat} {v : Value} {l : List ByteArray} (h : LO strE w b v l) (hl : l.length ≤ 17592186044416) (hs : ∀ x ∈ l, x.size ≤ 200000000000000) : NamesAt w v l :=
  lo_slice (E := strE) h rfl rfl hl (fun i x y hx hy => by
    have e : some x = some y := hx.symm.trans hy
    cases e
    exact ⟨rfl, hs x (List.mem_of_getElem? hx)⟩)
theorem kt_kept {Z : Nat → Prop} {w u v : World} (h : KT Z u v) (hk : Kept w u) (hd : ∀ d, Z d → w.heap.size ≤ d) : Kept w v :=
  ⟨h.1.trans hk.1, h.2.1.trans hk.2.1, h.2.2.1.trans hk.2.2.1, Nat.le_trans hk.size h.2.2.2.1, fun d hd2 => (h.2.2.2.2 d (Nat.lt_of_lt_of_le hd2 hk.size) (fun hz => by have := hd d hz; omega)).trans (hk.2.2.2.2 d hd2)⟩
theorem own_far {n0 : Nat} {w : World} {xL xN xP : SlV} {sp : SpV} (h : TwO n0 w xL xN xP sp) : ∀ d, OwnZ xL xN xP d → n0 ≤ d ∧ d < w.heap.size := by
  obtain ⟨B, its, qs, h1, h2, h3⟩ := h
  rintro d (e | e | e)
  · have := h3.lex.lt' _ e; omega
  · have := h3.nam.lt' _ e; omega
  · have := h3.prd.lt' _ e; omega
theorem lawLists_is (la na pa : Option Addr) (ln lc nn nc pn pc : Nat) (sp : SpV) (w : World) (hz : SzV sp) (hb : sp.lex.length + 2 + sp.nam.length ≤ 4000000000000) (h5 : ∀ x ∈ sp.lex, x.1.size ≤ 140737488351232) (h6 : ∀ x ∈ sp.nam, x.size ≤ 140737488351232) (hA : SpR w (.slice la ln lc) (.slice na nn nc) (.slice pa pn pc) sp) (hP : PowAt w) :
    Calls Tryz.prog 6 #[.agg #[.slice la ln lc, .slice na nn nc, .int .i64 sp.start, .slice pa pn pc]] w fun e w' => e = .returned (.bool true) ∧ Kept w w' := by
  have HHD := hide1 (fun w1 (hk : Kept w w1) => head_is6 w1 (hP.keep hk))
  have HTW := hide1 (fun w1 (hk : Kept w w1) => spTwin_is la na pa ln lc nn nc pn pc sp w1 hz (hA.keep hk))
  have h5' : ∀ x ∈ sp.lex, x.1.size ≤ 200000000000000 := fun x hx => by have := h5 x hx; omega
  have h6' : ∀ x ∈ sp.nam, x.size ≤ 200000000000000 := fun x hx => by have := h6 x hx; omega
  have h5c : ∀ x ∈ (chM sp).lex, x.1.size ≤ 200000000000000 := fun x hx => by have := ch_lex h5 x hx; omega
  have h6c : ∀ x ∈ (chM sp).nam, x.size ≤ 200000000000000 := fun x hx => by have := ch_nam h6 x hx; omega
  have hzc := szV_ch hz
  have hlc : (chM sp).lex.length = sp.lex.length := List.length_map _
  have hnc : (chM sp).nam.length = sp.nam.length := List.length_map _
  have hsc : (chM sp).start = sp.start := rfl
  have HRD : Hid (∀ n0 w1 xL xN xP, TwO n0 w1 xL xN xP sp → SpR w1 (val xL) (val xN) (val xP) sp) := fun n0 w1 xL xN xP h => h.rd hz h5' h6'
  have HRC : Hid (∀ n0 w1 xL xN xP, TwO n0 w1 xL xN xP (chM sp) → SpR w1 (val xL) (val xN) (val xP) (chM sp)) := fun n0 w1 xL xN xP h => h.rd hzc h5c h6c
  have HTC := hide1 (fun la na pa ln lc nn nc pn pc w1 (hr : SpR w1 (.slice la ln lc) (.slice na nn nc) (.slice pa pn pc) (chM sp)) => spTwin_is la na pa ln lc nn nc pn pc (chM sp) w1 hzc hr)
  have HNA := hide1 (fun la na ln lc nn nc vp w1 (hr : SpR w1 (.slice la ln lc) (.slice na nn nc) vp sp) => Names_is la na ln lc nn nc vp sp w1 hr.1 hr.2.1 (by have e1 := (slice_n hr.1).1; have e2 := (slice_n hr.2.1).1; omega))
  have HFA := hide1 (fun st la na ln lc nn nc vp w1 (hr : SpR w1 (.slice la ln lc) (.slice na nn nc) vp sp) => refNames_is la na ln lc nn nc vp sp st w1 hr.1 hr.2.1 (by have e1 := (slice_n hr.1).1; have e2 := (slice_n hr.2.1).1; omega))
  have HNB := hide1 (fun la na ln lc nn nc vp w1 (hr : SpR w1 (.slice la ln lc) (.slice na nn nc) vp (chM sp)) => Names_is la na ln lc nn nc vp (chM sp) w1 hr.1 hr.2.1 (by have e1 := (slice_n hr.1).1; have e2 := (slice_n hr.2.1).1; omega))
  have HFB := hide1 (fun la na ln lc nn nc vp w1 (hr : SpR w1 (.slice la ln lc) (.slice na nn nc) vp (chM sp)) => refNames_is la na ln lc nn nc vp (chM sp) sp.start w1 hr.1 hr.2.1 (by have e1 := (slice_n hr.1).1; have e2 := (slice_n hr.2.1).1; omega))
  have hsA := names_sz (by decide) h5' h6'
  have hsB := names_sz (by decide) h5c h6c
  have hlA := names_len sp
  have hlB := names_len (chM sp)
  have HTA := hide1 (fun a a' c c' b b' w1 (h : LO strE w1 b (.slice a (namesM sp).length c) (namesM sp)) (h' : LO strE w1 b' (.slice a' (namesM sp).length c') (namesM sp)) => texts_is a a' _ c c' _ w1 (texts_lo h (by omega) hsA) (texts_lo h' (by omega) hsA))
  have HTB := hide1 (fun a a' c c' b b' w1 (h : LO strE w1 b (.slice a (namesM (chM sp)).length c) (namesM (chM sp))) (h' : LO strE w1 b' (.slice a' (namesM (chM sp)).length c') (namesM (chM sp))) => texts_is a a' _ c c' _ w1 (texts_lo h (by omega) hsB) (texts_lo h' (by omega) hsB))
  have HCH : Hid (∀ n0 w1 la ln lc na nn nc pa pn pc, TwO n0 w1 (la, ln, lc) (na, nn, nc) (pa, pn, pc) sp → Calls Tryz.prog 20 #[.agg #[.slice la ln lc, .slice na nn nc, .int .i64 sp.start, .slice pa pn pc]] w1 fun e w' => e = .returned (.tuple #[]) ∧ TwO n0 w' (la, ln, lc) (na, nn, nc) (pa, pn, pc) (chM sp) ∧ KT (OwnZ (la, ln, lc) (na, nn, nc) (pa, pn, pc)) w1 w') := fun n0 w1 la ln lc na nn nc pa pn pc h => by
    have hr := h.rd hz h5' h6'
    have e1 := slice_n (a := la) (n := ln) (c := lc) hr.1
    have e2 := slice_n (a := na) (n := nn) (c := nc) hr.2.1
    have e3 := slice_n (a := pa) (n := pn) (c := pc) hr.2.2
    exact changed_is la na pa ln lc nn nc pn pc n0 sp sp.start w1 h (by omega) (by omega) (by omega) h5' h6'
  have HSA : Hid (∀ lb nb pb ln' lc' nn' nc' pn' pc' w1, SpR w1 (.slice lb ln' lc') (.slice nb nn' nc') (.slice pb pn' pc') sp → Kept w w1 → Calls Tryz.prog 14 #[.agg #[.slice lb ln' lc', .slice nb nn' nc', .int .i64 sp.start, .slice pb pn' pc'], .agg #[.slice la ln lc, .slice na nn nc, .int .i64 sp.start, .slice pa pn pc]] w1 fun e w' => e = .returned (.bool true) ∧ Kept w1 w') := fun lb nb pb ln' lc' nn' nc' pn' pc' w1 hr hk => by
    have h1 := hA.keep hk
    obtain ⟨a1, _, _⟩ := slice_n h1.1
    obtain ⟨a2, _, _⟩ := slice_n hr.1
    obtain ⟨b1, _, _⟩ := slice_n h1.2.1
    obtain ⟨b2, _, _⟩ := slice_n hr.2.1
    obtain ⟨c1, _, _⟩ := slice_n h1.2.2
    obtain ⟨c2, _, _⟩ := slice_n hr.2.2
    have e1 : ln' = ln := a2.symm.trans a1
    have e2 : nn' = nn := b2.symm.trans b1
    have e3 : pn' = pn := c2.symm.trans c1
    subst e1 e2 e3
    exact spSame_is lb nb pb la na pa _ _ _ _ _ _ _ _ _ sp w1 hr h1
  have hy9k : ∀ {w1 w2 : World} {b : Nat} {v : Value} {l : List ByteArray}, LO strE w1 b v l → Kept w1 w2 → LO strE w2 b v l := fun h hk => h.keep hk
  have HA := hide1 hA
  rw [hsc] at HTC HNB
  obtain ⟨st, hst⟩ : ∃ st, sp.start = st := ⟨_, rfl⟩
  rw [hst] at HTW HTC HNA HNB HFB HCH HSA ⊢
  obtain ⟨n1, hn1⟩ : ∃ n, (namesM sp).length = n := ⟨_, rfl⟩
  obtain ⟨n2, hn2⟩ : ∃ n, (namesM (chM sp)).length = n := ⟨_, rfl⟩
  rw [hn1] at HNA HFA HTA
  rw [hn2] at HNB HFB HTB
  have HB1 := hide1 (SpB.new w (.slice la ln lc) (.slice na nn nc) (.int .i64 st) (.slice pa pn pc))
  have HK1 : Hid (Kept w (w.alloc (.cells #[.slice la ln lc, .slice na nn nc, .int .i64 st, .slice pa pn pc] 27))) := (Kept.refl w).alloc _ _
  clear hz h5 h6 h5' h6' h5c h6c hzc hlc hnc hsc hsA hsB hlA hlB hA hP hst hn1 hn2 hb
  go_enter Tryz.func6, Tryz.ntmps6
  go_upto_region 1 with fail
  obtain ⟨W1, hW1⟩ : ∃ W1, w.alloc (.cells #[.slice la ln lc, .slice na nn nc, .int .i64 st, .slice pa pn pc] 27) = W1 := ⟨_, rfl⟩
  rw [hW1] at HB1 HK1 ⊢
  obtain ⟨g1, hg1⟩ : ∃ g, w.heap.size = g := ⟨_, rfl⟩
  have HG1 := hide1 hg1
  rw [hg1] at HB1 ⊢
  clear hW1 hg1
  obtain ⟨⟨a0, a1, a2, a3⟩, -⟩ := HB1.out.facts
  have hv : ∀ (a : Option Addr) (n c : Nat), val (a, n, c) = .slice a n c := fun a n c => rfl
  go_wp2_with fail
  go_at_call 12
  refine (HTW.out _ HK1.out).mono ?_
  rintro e w2 ⟨⟨⟨ta, tn, tc⟩, ⟨tb, tm, td⟩, ⟨tp, to, tq⟩, rfl, ho⟩, hk2⟩
  rw [hv, hv, hv]
  have HO2 := hide1 (ho.keep ((Kept.refl w2).alloc #[.slice ta tn tc, .slice tb tm td, .int .i64 st, .slice tp to tq] 27))
  have HK2 := hide1 ((gtrans HK1.out hk2).alloc #[.slice ta tn tc, .slice tb tm td, .int .i64 st, .slice tp to tq] 27)
  have HB2 := hide1 (HB1.out.keep (hk2.alloc #[.slice ta tn tc, .slice tb tm td, .int .i64 st, .slice tp to tq] 27))
  have HC2 := hide1 (SpB.new w2 (.slice ta tn tc) (.slice tb tm td) (.int .i64 st) (.slice tp to tq))
  have HZ2 : Hid (¬ OwnZ (ta, tn, tc) (tb, tm, td) (tp, to, tq) w2.heap.size) := fun h => by have := own_far ho _ h; omega
  have HG2 : Hid (w.heap.size ≤ W1.heap.size) := HK1.out.size
  clear ho hk2 a0 a1 a2 a3
  go_upto_region 2 with fail
  obtain ⟨W2, hW2⟩ : ∃ W2, w2.alloc (.cells #[.slice ta tn tc, .slice tb tm td, .int .i64 st, .slice tp to tq] 27) = W2 := ⟨_, rfl⟩
  rw [hW2] at HO2 HK2 HB2 HC2 ⊢
  obtain ⟨g2, hg2⟩ : ∃ g, w2.heap.size = g := ⟨_, rfl⟩
  rw [hg2] at HC2 HZ2 ⊢
  clear hW2 hg2
  obtain ⟨⟨b0, b1, b2, b3⟩, -⟩ := HC2.out.facts
  have HR2 := hide1 (HRD.out _ _ _ _ _ HO2.out)
  rw [hv, hv, hv] at HR2
  go_upto_region 3 with (go_at_call 17; go_must (refine (HNA.out _ _ _ _ _ _ _ _ HR2.out).mono ?_; rintro e w3 ⟨xa, xc, rfl, hx, hk3⟩; have HX3 := hide1 hx; have HL3 := hide1 hk3; clear hx hk3))
  clear b0 b1 b2 b3
  go_upto_region 4 with (first
    | (go_at_call 9; go_must (refine (HHD.out _ (gtrans HK2.out HL3.out)).mono ?_; rintro e w4 ⟨rfl, hk4⟩; have HX4 := hide1 (hy9k HX3.out hk4); have HL4 := hide1 (gtrans HL3.out hk4); clear hk4; obtain ⟨⟨a0, a1, a2, a3⟩, -⟩ := (HB2.out.keep HL4.out).facts))
    | (go_at_call 19; go_must (clear a0 a1 a2 a3; refine (HFA.out st _ _ _ _ _ _ _ _ (HA.out.keep (gtrans HK2.out HL4.out))).mono ?_; rintro e w5 ⟨za, zc, rfl, hz, hk5⟩; have HZ5 := hide1 hz; have HX5 := hide1 (hy9k HX4.out hk5); have HL5 := hide1 (gtrans HL4.out hk5); clear hz hk5))
    | (go_at_call 18; go_must (refine (HTA.out _ _ _ _ _ _ _ HX5.out HZ5.out).mono ?_; rintro e w6 ⟨rfl, hk6⟩; have HL6 := hide1 (gtrans HL5.out hk6); clear hk6; obtain ⟨⟨a0, a1, a2, a3⟩, -⟩ := (HB2.out.keep HL6.out).facts; obtain ⟨⟨b0, b1, b2, b3⟩, -⟩ := (HC2.out.keep HL6.out).facts))
    | (go_at_call 14; go_must (clear a0 a1 a2 a3 b0 b1 b2 b3; refine (HSA.out _ _ _ _ _ _ _ _ _ _ (HR2.out.keep HL6.out) (gtrans HK2.out HL6.out)).mono ?_; rintro e w7 ⟨rfl, hk7⟩; have HL7 := hide1 (gtrans HL6.out hk7); clear hk7)))
  clear HX3 HX4 HX5 HZ5 HL3 HL4 HL5 HL6 HB2 HB1 HA
  obtain ⟨⟨b0, b1, b2, b3⟩, -⟩ := (HC2.out.keep HL7.out).facts
  go_upto_region 5 with (go_at_call 17; go_must (clear b0 b1 b2 b3; refine (HNA.out _ _ _ _ _ _ _ _ (HR2.out.keep HL7.out)).mono ?_; rintro e w8 ⟨xa', xc', rfl, hx, hk8⟩; have HL8 := hide1 (gtrans HL7.out hk8); clear hx hk8))
  obtain ⟨⟨b0, b1, b2, b3⟩, -⟩ := (HC2.out.keep HL8.out).facts
  go_upto_region 6 with (go_at_call 20; go_must (clear b0 b1 b2 b3; refine (HCH.out _ _ _ _ _ _ _ _ _ _ _ (HO2.out.keep HL8.out)).mono ?_; rintro e W8 ⟨rfl, ho8, hkt8⟩; have HR8 := hide1 (HRC.out _ _ _ _ _ ho8); have HB8 := hide1 (KT.sp hkt8 (HC2.out.keep HL8.out) HZ2.out); have HK8 := hide1 (kt_kept hkt8 (gtrans HK2.out HL8.out) (fun d hd => Nat.le_trans HG2.out (own_far (HO2.out) d hd).1)); clear ho8 hkt8))
  rw [hv, hv, hv] at HR8
  clear HL7 HL8 HC2 HR2 HO2 HK2 HK1
  refine wp_region_held_drew (S := fun X => Kept W8 X) (by kernel_rfl) (drew_kept _) (fun hHeld => ?_)
  refine tkH 0 ((.bool true)) rfl (fun w' hSw => ?_) ?_
  · skip
    clear hSw
    go_simp
  try simp only [layS]
  refine tkH 1 ((.bool true)) rfl (fun w' hSw => ?_) ?_
  · skip
    clear hSw
    go_simp
  try simp only [layS]
  refine tkH 2 ((.agg #[.slice ta tn tc, .slice tb tm td, .int .i64 st, .slice tp to tq])) rfl (fun w' hSw => ?_) ?_
  · obtain ⟨⟨b0, b1, b2, b3⟩, -⟩ := (HB8.out.keep hSw).facts
    clear hSw
    go_simp
  try simp only [layS]
  refine tkH 4 ((.agg #[.slice ta tn tc, .slice tb tm td, .int .i64 st, .slice tp to tq])) rfl (fun w' hSw => ?_) ?_
  · obtain ⟨⟨b0, b1, b2, b3⟩, -⟩ := (HB8.out.keep hSw).facts
    clear hSw
    go_simp
  try simp only [layS]
  refine wpAnyH_ready (rs := [3]) (by kernel_rfl) (by simp) ?_
  refine AllReadyH.cons (i := 3) rfl (fun K hK => ?_) AllReadyH.nil
  go_simp
  go_wp2_with (go_at_call 17; refine (HNB.out _ _ _ _ _ _ _ _ (HR8.out.keep (drew_kept _))).mono ?_; rintro e w9 ⟨ya, yc, rfl, hy, hk9⟩; have HY9 := hide1 hy; have HK9 : Hid (Kept W8 w9) := gtrans (drew_kept _) hk9; clear hk9 hy)
  refine hK.out _ _ HK9.out (fun hHeld2 => ?_)
  clear hK K hHeld
  have hHeld := hHeld2
  clear hHeld2
  try simp only [layS]
  refine wpAnyH_ready (rs := [5]) (by kernel_rfl) (by simp) ?_
  refine AllReadyH.cons (i := 5) rfl (fun K hK => ?_) AllReadyH.nil
  go_simp
  go_wp2_with (go_at_call 12; refine (HTC.out _ _ _ _ _ _ _ _ _ _ (HR8.out.keep HK9.out)).mono ?_; rintro e wA ⟨⟨⟨ua, un, uc⟩, ⟨ub, um, ud⟩, ⟨up, uo, uq⟩, rfl, ho⟩, hkA⟩; rw [hv, hv, hv]; have HRA := hide1 (HRC.out _ _ _ _ _ ho); have HKA : Hid (Kept W8 wA) := gtrans HK9.out hkA; have HYA := hide1 (hy9k HY9.out hkA); clear ho hkA)
  refine hK.out _ _ HKA.out (fun hHeld2 => ?_)
  clear hK K hHeld
  have hHeld := hHeld2
  clear hHeld2
  try simp only [layS]
  refine wpAnyH_ready (rs := [6]) (by kernel_rfl) (by simp) ?_
  refine AllReadyH.cons (i := 6) rfl (fun K hK => ?_) AllReadyH.nil
  go_simp
  go_wp2_with (go_at_call 19; refine (HFB.out _ _ _ _ _ _ _ _ HRA.out).mono ?_; rintro e wB ⟨za, zc, rfl, hz, hkB⟩; have HZB := hide1 hz; have HKB : Hid (Kept W8 wB) := gtrans HKA.out hkB; have HYB := hide1 (hy9k HYA.out hkB); clear hz hkB)
  refine hK.out _ _ HKB.out (fun hHeld2 => ?_)
  clear hK K hHeld
  have hHeld := hHeld2
  clear hHeld2
  try simp only [layS]
  refine wpAnyH_ready (rs := [7]) (by kernel_rfl) (by simp) ?_
  refine AllReadyH.cons (i := 7) rfl (fun K hK => ?_) AllReadyH.nil
  go_simp
  go_wp2_with (go_at_call 18; refine (HTB.out _ _ _ _ _ _ _ HYB.out HZB.out).mono ?_; rintro e wC ⟨rfl, hkC⟩; have HKC : Hid (Kept W8 wC) := gtrans HKB.out hkC; clear hkC)
  refine hK.out _ _ HKC.out (fun hHeld2 => ?_)
  clear hK K hHeld
  have hHeld := hHeld2
  clear hHeld2
  try simp only [layS]
  refine tkH 8 ((.bool true)) rfl (fun w' hSw => ?_) ?_
  · skip
    clear hSw
    go_simp
  try simp only [layS]
  refine tkH 9 ((.bool true)) rfl (fun w' hSw => ?_) ?_
  · skip
    clear hSw
    go_simp
  try simp only [layS]
  refine wpAnyH_done (by kernel_rfl) ?_ _
  go_wp2_with fail
  go_ret
  exact ⟨rfl, gtrans HK8.out HKC.out⟩
end Gu
end Ex
end Go.Proofs.YtbnchnlogikecaaGreatDoor
namespace Go.Proofs.YtbnchnlogikecaaGreatDoor
open Go.ChangeShapes Go.WideShapes Go.ChangeAt Go.RowKit
set_option linter.unusedVariables false
set_option maxRecDepth 100000
namespace Ex
namespace Gu
open Sh Gs
theorem handed_cond_laid {H : Type} {enc : TypeId × Value → H} {a : Assume} {C : Checked} {os : Os} {f : FuncId} {fn : Func} {s : OpenSpec} {k : (H : Type) → List (DataW H) → Bool} (hk : s.cond = some k) {F : Stop.Interp} {conds : List PathCond} {apart fresh handsOn again : Bool} {X : World → Array Value → Prop}
    (hX : ∀ (w w' : World) (args : Array Value), w.heap = w'.heap → X w args → X w' args)
    (own : ownKnob C.prog.godebug = none) (started : os.Started) (noInit : C.prog.inits.idxOf? f = none) (hfn : C.prog.funcs[f]? = some fn)
    (witness : ∃ (w : World) (tape : Tape) (i : Input), w.os = os ∧ (w.forCall tape i).Shaped C.prog ∧ i.vars = [] ∧ Input.okWide C.prog (w.forCall tape i) .any w.heap.size f i ∧
      ((s.pre enc C.prog fn conds apart (w.forCall tape i).memory i.args ∧ X (w.forCall tape i).memory i.args) ∧ sizedMet enc C.prog fn s apart (w.forCall tape i).memory i.args) ∧ a.holds C.prog (lone (Frame.enter C.prog f i.args .normal) [] (w.forCall tape i)))
    (contract : ∀ (W : World) (base : Nat) (args : Array Value) (ds gs : List (DataW H)) (before : List MemPlace),
      (∀ (j : Nat) t v, fn.params[j]? = some t → args[j]? = some v → Value.okWide C.prog W .any base t v) →
      DataW.Whole enc C.prog fn.params.toList s.vars apart W args.toList ds gs before → k H (ds ++ gs) = true →
      (DataW.weightsEach C.prog (fn.params.toList ++ s.bare.plain.varTypes C.prog) (ds ++ gs)).all (· ≤ reachBytes) = true → X W args →
      Calls C.prog f args W fun e W' => ∃ v, e = .returned v ∧ (s.at F).post enc C.prog fn apart fresh handsOn again W args v W') :
    ReturnsInHanded a C os f .any (fun w args => (s.pre enc C.prog fn conds apart w args ∧ X w args) ∧ sizedMet enc C.prog fn s apart w args) ((s.at F).post enc C.prog fn apart fresh handsOn again) := by
  refine returnsInHanded_of_calls own started noInit witness ?_
  intro w tape i _ _ _ hok hpre _
  obtain ⟨_, _, _, fn', hfn', _, _, _, _, hval⟩ := hok
  obtain rfl : fn' = fn := Option.some.inj (hfn'.symm.trans hfn)
  obtain ⟨⟨hp, hx⟩, hz⟩ := hpre
  obtain ⟨ds, gs, before, hw, _, hkk⟩ := (OpenSpec.pre_some hk conds apart _ _).1 hp
  refine (contract (w.forCall tape i) w.heap.size i.args ds gs before hval (DataW.Whole.of_heap (w' := w.forCall tape i) (by rfl) hw) hkk (hz.weights hw) (hX _ _ _ (by rfl) hx)).mono fun e W' ⟨v, he, hp⟩ => ?_
  subst he
  exact ChangeSpec.post_blind hp
theorem walkSpecLists (la0 na0 pa0 : Option Addr) (ln0 lc0 nn0 nc0 pn0 pc0 : Nat) (sp0 : SpV) (w : World) (hA0 : SpR w (.slice la0 ln0 lc0) (.slice na0 nn0 nc0) (.slice pa0 pn0 pc0) sp0) (hZ0 : SzV sp0) (hb : sp0.lex.length + 2 + sp0.nam.length ≤ 4000000000000) (h5 : ∀ x ∈ sp0.lex, x.1.size ≤ 140737488351232) (h6 : ∀ x ∈ sp0.nam, x.size ≤ 140737488351232) (hP : w.cell? ⟨1, 2, none⟩ = some (.int .u64 100) ∧ w.cell? ⟨1, 3, none⟩ = some (.int .u64 1000)) :
    Calls Tryz.prog 6 #[.agg #[.slice la0 ln0 lc0, .slice na0 nn0 nc0, .int .i64 sp0.start, .slice pa0 pn0 pc0]] w fun e w' => e = .returned (.bool true) ∧ Below w.heap.size w w' :=
  (lawLists_is la0 na0 pa0 ln0 lc0 nn0 nc0 pn0 pc0 sp0 w hZ0 hb h5 h6 hA0 hP).mono fun _ _ h => ⟨h.1, h.2.below⟩
theorem witSpecLists (os : Os) {H : Type} (enc : TypeId × Value → H) :
    ∃ (w : World) (tape : Tape) (i : Input), w.os = os ∧ (w.forCall tape i).Shaped Tryz.prog ∧ i.vars = [] ∧ Input.okWide Tryz.prog (w.forCall tape i) .any w.heap.size 6 i ∧
      (((Rows.OpenSpec.upto Rows.specListsSpec).pre enc Tryz.prog Tryz.f6 [] false (w.forCall tape i).memory i.args ∧ laidMetH Tryz.prog Rows.specListsUptoRow.laid (w.forCall tape i).memory) ∧ sizedMet enc Tryz.prog Tryz.f6 (Rows.OpenSpec.upto Rows.specListsSpec) false (w.forCall tape i).memory i.args) ∧ ({} : Assume).holds Tryz.prog (lone (Frame.enter Tryz.prog 6 i.args .normal) [] (w.forCall tape i)) :=
  ⟨World.doorLaid Tryz.prog 4000 os, fun _ _ => 0, ⟨#[], #[.agg #[.slice none 0 0, .slice none 0 0, .int .i64 0, .slice none 0 0]], []⟩, rfl, World.shaped_of_RefB (by kernel_rfl) (by kernel_rfl),
    rfl, (Input.okWide_of_okWideB (show Input.okWideB Tryz.prog ((World.doorLaid Tryz.prog 4000 os).forCall (fun _ _ => 0) ⟨#[], #[.agg #[.slice none 0 0, .slice none 0 0, .int .i64 0, .slice none 0 0]], []⟩) 6 ⟨#[], #[.agg #[.slice none 0 0, .slice none 0 0, .int .i64 0, .slice none 0 0]], []⟩ = true by kernel_rfl)).2,
    ⟨⟨(OpenSpec.pre_some (k := Rows.uptoSmall) rfl [] false _ _).2 ⟨[.agg [.nil, .nil, .lit (.int .i64 0), .nil]], [], [], DataW.Whole_of_whole (x := ([.agg [.nil, .nil, .lit (.int .i64 0), .nil]], [], [])) (fuel := 8) (by kernel_rfl), rfl, by kernel_rfl⟩, door_met os _⟩, sizedMet_of_sizedB (fuel := 8) (by kernel_rfl)⟩, by
    simp only [Assume.holds]
    exact ⟨by simp, by simp, fun _ => Modest.zero, by simp, by simp⟩⟩
theorem liftedSpecLists (os : Os) (started : os.Started) (H : Type) (enc : TypeId × Value → H) (F : Stop.Interp) :
    ReturnsInHanded {} Tryz.checked os 6 .any (fun w args => ((Rows.OpenSpec.upto Rows.specListsSpec).pre enc Tryz.prog Tryz.f6 [] false w args ∧ laidMetH Tryz.prog Rows.specListsUptoRow.laid w) ∧ sizedMet enc Tryz.prog Tryz.f6 (Rows.OpenSpec.upto Rows.specListsSpec) false w args)
      (((Rows.OpenSpec.upto Rows.specListsSpec).at F).post enc Tryz.prog Tryz.f6 false true false false) := by
  refine handed_cond_laid (C := Tryz.checked) (s := Rows.OpenSpec.upto Rows.specListsSpec) (k := Rows.uptoSmall) rfl (X := fun w _ => laidMetH Tryz.prog Rows.specListsUptoRow.laid w) (fun _ _ _ hh h => h.of_heap hh) own started (by kernel_rfl) Tryz.func6
    (witSpecLists os enc) ?_
  intro W base args ds gs before hval0 hW hk hsz hL
  have hval : ∀ (j : Nat) t v, Tryz.f6.params[j]? = some t → args[j]? = some v → Value.okWide Tryz.prog W .any base t v := hval0
  have hW' := hW
  obtain ⟨p, q, hA0, hV, rfl, hfz, hnd⟩ := hW
  have hA : DataW.TrodAll enc Tryz.prog W 0 (fun _ => true) true Tryz.f6.params.toList args.toList ds p := hA0
  rw [Tryz.params6] at hA hval
  obtain ⟨v0, vs0, d0, ds0, p0, q0, hargs, rfl, rfl, h0, r0⟩ := trodAll_cons hA
  obtain ⟨rfl, rfl, rfl⟩ := trodAll_nil r0
  obtain rfl : args = #[v0] := by cases args; simp_all
  obtain ⟨rfl, rfl⟩ := trodVars_none hV
  have k0 := h0
  have lt0 : ∀ x ∈ p0, x.block < W.heap.size := by obtain ⟨m, hm⟩ := k0; exact DataW.trod_lt m _ _ _ hm
  have wt0 : ∀ n ∈ d0.weights Tryz.prog 27, n ≤ reachBytes := fun n hn => by
    have := List.all_eq_true.1 hsz n (DataW.weights_mem_each (j := 0) (by rfl) (by rfl) n hn)
    simpa using this
  have hb : Rows.uptoBulk d0 ≤ 1048576 := by
    have h := of_decide_eq_true hk
    simp only [Rows.uptoBulkAll, List.append_nil] at h
    omega
  have s0 := okWide_struct Tryz.underlying27 (hval 0 27 v0 rfl rfl)
  obtain ⟨la0, na0, pa0, ln0, lc0, nn0, nc0, pn0, pc0, sp0, e0, hS0, hZ0, hb0, h5, h6⟩ := spec_up s0 k0 wt0 hb
  clear hA0 hval0
  refine Calls.mono (R := fun e w' => e = .returned (.bool true) ∧ Below W.heap.size W w') (by rw [e0]; exact walkSpecLists _ _ _ _ _ _ _ _ _ _ W hS0 hZ0 hb0 h5 h6 (pow_laid (show laidMetH Tryz.prog Rows.specCutRow.laid W from hL))) fun e W' ⟨he, bel⟩ => ?_
  subst he
  exact ⟨_, rfl, _, _, _, [], _, [], hW', trodAll_mk1 (shut_bool Tryz.underlying4 _), (trodAll_cons_mk (Below.trod laidOut (by kernel_rfl) (of_decide_eq_true (by kernel_rfl)) k0 bel lt0) trodAll_mk0), rfl, bel.frame _, fun h => by cases h⟩
theorem overSpecLists : Rows.specListsUptoRow.holds Tryz.pinned (Rows.OpenSpec.upto Rows.specListsSpec) :=
  OpenClaim.holds_of_cond 6 Tryz.f6 rfl rfl rfl rfl rfl rfl rfl ⟨rfl, rfl, rfl, rfl, rfl⟩ rfl rfl rfl rfl rfl (by kernel_rfl) Tryz.func6 (by kernel_rfl)
    (of_decide_eq_true (by kernel_rfl)) (by unfold Func.isWrapper; first | (rw [if_pos (by decide +kernel)]; kernel_rfl) | (rw [if_neg (by decide +kernel)]; exact ⟨rfl, rfl⟩))
    (fun os started H enc _ F => liftedSpecLists os started H enc F)
end Gu
end Ex
theorem specListsUpto_card_holds : Rows.SpecListsUptoCardSaid :=
  Claim7.holds_tied_plain_at .later [] [.data, .data, .data] true Rows.specListsUptoCard.stood.harness true
    Ex.Gu.overSpecLists (fun _ h => by cases h) (by kernel_rfl) (fun _ h => by cases h) specListsUpto_row_tie rfl ⟨rfl, rfl⟩ (by kernel_rfl) rfl
    (fun f fn hf hfn => by
      obtain rfl : f = 6 := Option.some.inj (hf.symm.trans (by kernel_rfl))
      obtain rfl : fn = Tryz.f6 := (Option.some.inj (Tryz.func6.symm.trans hfn)).symm
      exact ⟨by kernel_rfl, fun j t ht => by
        rw [Tryz.params6] at ht
        have hm : t ∈ [27] := by simpa using Array.mem_of_getElem? ht
        have hall : ([27].all fun u => !Tryz.prog.wantsStandIn u) = true := by kernel_rfl
        exact (show Tryz.prog.wantsStandIn t = false by simpa using List.all_eq_true.1 hall t hm)⟩)
    (by kernel_rfl)
#print axioms specListsUpto_card_holds
end Go.Proofs.YtbnchnlogikecaaGreatDoor
