import Derived.Test.YtbnchnlogikecaaGreatDoorPGu6
import Derived.OwnWalk
import Derived.Test.YtbnchnlogikecaaGreatDoorPExFr0
import Derived.Shelf.Strings.Builder1
import Derived.Test.YtbnchnlogikecaaGreatDoorPGtI
import Derived.Test.YtbnchnlogikecaaGreatDoorPExKl
import Derived.Lib.Builder
import Derived.Deep.DeepMust
import Derived.Deep.Cut
import Derived.BigQuiet
import Derived.Laws.Externs
namespace Go.Proofs.YtbnchnlogikecaaGreatDoor
open Go.RowKit
attribute [local go_sem] Oper.semAt_some
set_option linter.unusedVariables false
set_option linter.unusedSimpArgs false
set_option maxRecDepth 100000
set_option maxHeartbeats 4000000
namespace Ex
namespace Gu
open Sh Gs
def endW : ByteArray := ⟨#[101, 110, 100]⟩
def namesM (sp : SpV) : List ByteArray := sp.lex.map (·.1) ++ [errW, endW] ++ sp.nam
theorem kept_grown {w W w' : World} {row : Option Nat} (hk : Kept w W) (hg : W.grownBy w' row) (hr : ∀ d, row = some d → w.heap.size ≤ d) : Kept w w' :=
  ⟨hg.os.trans hk.1, hg.tape.trans hk.2.1, hg.output.trans hk.2.2.1, Nat.le_trans hk.size hg.size, fun d hd => (hg.block d (Nat.lt_of_lt_of_le hd hk.size) (fun e => by have := hr d e.symm; omega)).trans (hk.2.2.2.2 d hd)⟩
def NmI (w : World) (v : Value) (l : List ByteArray) (wr : World) : Prop := LO strE wr w.heap.size v l ∧ Kept w wr
theorem NmI.grow {w W w' : World} {v v' : Value} {l l' : List ByteArray} (h : NmI w v l W) (ho : LO strE w' w.heap.size v' l') (hg : W.grownBy w' v.ownBlock) : NmI w v' l' w' := ⟨ho, kept_grown h.2 hg (fun d hd => (h.1.lt' d hd).1)⟩
theorem NmI.keep {w W w' : World} {v : Value} {l : List ByteArray} (h : NmI w v l W) (hk : Kept W w') : NmI w v l w' := ⟨h.1.keep hk, gtrans h.2 hk⟩
theorem NmI.len {w W : World} {a : Option Addr} {n c : Nat} {l : List ByteArray} (h : NmI w (.slice a n c) l W) : l.length = n := lo_lens h.1
def NmJ (w : World) (g : Nat) (cs : Array Value) (v : Value) (l : List ByteArray) (wr : World) : Prop := NmI w v l wr ∧ wr.heap[g]? = some (.cells cs 27 (0, 0))
theorem NmJ.keep {w W w' : World} {g : Nat} {cs : Array Value} {v : Value} {l : List ByteArray} (h : NmJ w g cs v l W) (hk : Kept W w') : NmJ w g cs v l w' := ⟨h.1.keep hk, (hk.2.2.2.2 g (Array.getElem?_eq_some_iff.1 h.2).1).trans h.2⟩
theorem NmJ.grow {w W w' : World} {g : Nat} {cs : Array Value} {v v' : Value} {l l' : List ByteArray} (h : NmJ w g cs v l W) (ho : LO strE w' w.heap.size v' l') (hg : W.grownBy w' v.ownBlock) : NmJ w g cs v' l' w' :=
  ⟨h.1.grow ho hg, (hg.block g (Array.getElem?_eq_some_iff.1 h.2).1 (fun e => by
    obtain ⟨cur, hc⟩ := h.1.1.type e.symm
    rw [h.2] at hc
    injection hc with hc
    injection hc with _ hc
    revert hc
    decide)).trans h.2⟩
theorem str_info : (Tryz.prog.info? 9).map (fun i => (i.zero, i.size, i.bytes)) = some (some (.string ByteArray.empty), 1, 16) := by kernel_rfl
theorem two_src {w : World} : Src strE (w.alloc (.cells #[.string errW, .string endW] 9)) (some ⟨w.heap.size, 0, none⟩) [errW, endW] := .inr ⟨w.heap.size, 0, rfl, fun j u hj => by
  have h := heap_alloc_new w (.cells #[.string errW, .string endW] 9)
  unfold World.cell?
  simp only [h, Nat.zero_add]
  have e : flatE strE [errW, endW] = [.string errW, .string endW] := rfl
  rw [e] at hj
  simpa using hj⟩
theorem Names_is (la na : Option Addr) (ln lc nn nc : Nat) (vp : Value) (sp : SpV) (w : World) (hr1 : SliceOf w 8 (LexE w) (.slice la ln lc) sp.lex) (hr2 : NamesAt w (.slice na nn nc) sp.nam) (hb : ln + 2 + nn ≤ 8000000000000) :
    Calls Tryz.prog 17 #[.agg #[.slice la ln lc, .slice na nn nc, .int .i64 sp.start, vp]] w fun e w' => ∃ a c, e = .returned (.slice a (namesM sp).length c) ∧ LO strE w' w.heap.size (.slice a (namesM sp).length c) (namesM sp) ∧ Kept w w' := by
  obtain ⟨lx, nms, st, ps⟩ := sp
  dsimp only at hr1 hr2 ⊢
  obtain ⟨hln, hlc, -⟩ := slice_n hr1
  obtain ⟨hnn, hnc, -⟩ := slice_n hr2
  have HNL : Hid (namesM ⟨lx, nms, st, ps⟩ = lx.map (·.1) ++ [errW, endW] ++ nms) := rfl
  obtain ⟨NM, hNM⟩ : ∃ x, namesM ⟨lx, nms, st, ps⟩ = x := ⟨_, rfl⟩
  rw [hNM] at HNL ⊢
  have HLN := hide1 hln
  have HNN := hide1 hnn
  have HR1 := hide1 hr1
  have HR2 := hide1 hr2
  have HB := hide1 hb
  have hbI : (ln : Int) + 2 + (nn : Int) ≤ 8000000000000 := by omega
  obtain ⟨is, hsi, hsz0, hsz1, hsz2⟩ := info_parts str_info
  have HSI := hide1 (And.intro hsi (And.intro hsz0 (And.intro hsz1 hsz2)))
  have HBX : Hid ((w.alloc (.cells #[.slice la ln lc, .slice na nn nc, .int .i64 st, vp] 27)).heap[w.heap.size]? = some (.cells #[.slice la ln lc, .slice na nn nc, .int .i64 st, vp] 27 (0, 0))) := heap_alloc_new w _
  have HK1 := hide1 ((Kept.refl w).alloc #[.slice la ln lc, .slice na nn nc, .int .i64 st, vp] 27)
  clear hr1 hr2 hln hnn hNM hb hsi hsz0 hsz1 hsz2
  go_enter Tryz.func17, Tryz.ntmps17
  go_upto_region 1 with fail
  obtain ⟨g1, hg1⟩ : ∃ g, w.heap.size = g := ⟨_, rfl⟩
  have HG1 := hide1 hg1
  generalize w.alloc (.cells #[.slice la ln lc, .slice na nn nc, .int .i64 st, vp] 27) = W1 at HBX HK1 ⊢
  rw [hg1] at HBX ⊢
  clear hg1
  have k0 : W1.cell? ⟨g1, 0, none⟩ = some (.slice la ln lc) := by have := HBX.out; simp [World.cell?, this]
  have k1 : W1.cell? ⟨g1, 1, none⟩ = some (.slice na nn nc) := by have := HBX.out; simp [World.cell?, this]
  go_upto_region 2 with (refine wpList_make_own W1 rfl _ _ _ rfl w.heap.size 9 is _ 1 Tryz.underlying24 HSI.out.1 HSI.out.2.1 HSI.out.2.2.1 .i64 .i64 ((ln : Int) + 2 + (nn : Int)) (ln + 2 + nn) (by rfl) (by rfl) (by push_cast; rfl) (by rw [HSI.out.2.2.2]; have := HB.out; omega) (by have := HB.out; unfold maxLen; omega) HK1.out.size ?_; intro w2 ho2 hg2; have HN2 : Hid (NmJ w g1 #[.slice la ln lc, .slice na nn nc, .int .i64 st, vp] (.slice (some ⟨W1.heap.size, 0, none⟩) 0 (ln + 2 + nn)) [] w2) := ⟨⟨ho2, kept_grown HK1.out hg2 (fun d hd => by cases hd)⟩, (hg2.block g1 (Array.getElem?_eq_some_iff.1 HBX.out).1 (by intro e; cases e)).trans HBX.out⟩; clear ho2 hg2)
  clear k0 k1 HBX HK1
  have k0 : w2.cell? ⟨g1, 0, none⟩ = some (.slice la ln lc) := by have := HN2.out.2; simp [World.cell?, this]
  go_wp2_with fail
  go_loopw [3, 20] (fun v3 v20 wr => ∃ (i : Nat) (ga : Option Addr) (gc : Nat), v20 = .int .i64 (i : Int) ∧ v3 = .slice ga i gc ∧ i ≤ ln ∧ Hid (NmJ w g1 #[.slice la ln lc, .slice na nn nc, .int .i64 st, vp] (.slice ga i gc) ((lx.take i).map (·.1)) wr)) (fun _ v20 _ => ln - (intOf v20).toNat)
  case atStart => exact ⟨0, _, _, rfl, rfl, Nat.zero_le _, HN2.out⟩
  case round =>
    clear k0 HN2
    obtain ⟨i, ga, gc, rfl, rfl, hi, hI⟩ := hrel
    by_cases hlt : i < ln
    · have hil : i < lx.length := by rw [HLN.out]; exact hlt
      obtain ⟨x, hxe⟩ : ∃ x, lx[i]'hil = x := ⟨_, rfl⟩
      have hxi : lx[i]? = some x := by rw [List.getElem?_eq_getElem hil, hxe]
      obtain ⟨cb, ob, cs, hla, _, _, hcell, v', hcs, hsz, hkd⟩ := SliceOf.el0 HR1.out hxi
      subst hla hcs
      have HTK : Hid ((lx.take i).map (·.1) ++ [x.1] = (lx.take (i + 1)).map (·.1)) := by
        show _ = _
        rw [List.take_add_one, hxi, List.map_append]
        rfl
      have k0 := grown_cell hI.out.1.2 (hcell 0 _ rfl)
      have k1 := grown_cell hI.out.1.2 (hcell 1 _ rfl)
      have k2 := grown_cell hI.out.1.2 (hcell 2 _ rfl)
      have k3 := grown_cell hI.out.1.2 (hcell 3 _ rfl)
      have k4 := grown_cell hI.out.1.2 (hcell 4 _ rfl)
      have k5 := grown_cell hI.out.1.2 (hcell 5 _ rfl)
      have k6 := grown_cell hI.out.1.2 (hcell 6 _ rfl)
      have k7 := grown_cell hI.out.1.2 (hcell 7 _ rfl)
      obtain ⟨ka, kc, hv'⟩ := hkd.form
      subst hv'
      obtain ⟨nm, tr, n, pt⟩ := x
      dsimp only at k0 k1 k2 k3 k4 k5 k6 k7 HTK hsz
      rw [Nat.add_zero] at k0
      obtain ⟨⟨e0, hE0⟩, ⟨e1, hE1⟩, ⟨e2, hE2⟩, ⟨e3, hE3⟩, ⟨e4, hE4⟩, ⟨kn, hE5⟩⟩ : (∃ x, kind pt = x) ∧ (∃ x, from_ pt = x) ∧ (∃ x, to_ pt = x) ∧ (∃ x, min_ pt = x) ∧ (∃ x, max_ pt = x) ∧ (∃ x, (kids pt).length = x) := ⟨⟨_, rfl⟩, ⟨_, rfl⟩, ⟨_, rfl⟩, ⟨_, rfl⟩, ⟨_, rfl⟩, ⟨_, rfl⟩⟩
      rw [hE0] at k2
      rw [hE1] at k3
      rw [hE2] at k4
      rw [hE3] at k5
      rw [hE4] at k6
      rw [hE5] at k7
      have HCL := hide1 (fun w => clone_is nm w (by omega))
      have eI : (i : Int) < (ln : Int) := by omega
      have gjc : (i : Int) < (lc : Int) := by omega
      have HI2 := hide1 hlt
      have HCA := hide1 (hI.out.keep ((Kept.refl wr).alloc #[.string nm, .bool tr, .int .i64 e0, .int .i64 e1, .int .i64 e2, .int .i64 e3, .int .i64 e4, .slice ka kn kc] 72))
      have HBA : Hid ((wr.alloc (.cells #[.string nm, .bool tr, .int .i64 e0, .int .i64 e1, .int .i64 e2, .int .i64 e3, .int .i64 e4, .slice ka kn kc] 72)).heap[wr.heap.size]? = some (.cells #[.string nm, .bool tr, .int .i64 e0, .int .i64 e1, .int .i64 e2, .int .i64 e3, .int .i64 e4, .slice ka kn kc] 72 (0, 0))) := heap_alloc_new wr _
      have HLI := hide1 hI.out.1.len
      clear hI hlt hi hxe hxi hil hkd hcell hsz hE0 hE1 hE2 hE3 hE4 hE5
      go_upto_region 5 with fail
      obtain ⟨g5, hg5⟩ : ∃ g, wr.heap.size = g := ⟨_, rfl⟩
      generalize wr.alloc (.cells #[.string nm, .bool tr, .int .i64 e0, .int .i64 e1, .int .i64 e2, .int .i64 e3, .int .i64 e4, .slice ka kn kc] 72) = W2 at HCA HBA ⊢
      rw [hg5] at HBA ⊢
      clear hg5 k0 k1 k2 k3 k4 k5 k6 k7
      have k0 : W2.cell? ⟨g5, 0, none⟩ = some (.string nm) := by have := HBA.out; simp [World.cell?, this]
      go_wp2_with (first
        | (go_at_call 35; go_must (refine (HCL.out _).mono ?_; rintro e w3 ⟨rfl, hk3⟩; have HC3 := hide1 ((HCA.out.keep hk3).keep ((Kept.refl w3).alloc (encStr nm).toArray 9)); clear hk3))
        | (at_builtin; refine wpl_lo (E := strE) rfl _ _ rfl w.heap.size (.slice ga i gc) _ i HLI.out (by rfl) HC3.out.1.1 w3.heap.size nm (by rfl) (heap_alloc_new w3 _) (by show (i + 1) * 16 ≤ _; have := HI2.out; have := HB.out; omega) (by unfold maxLen; have := HI2.out; have := HB.out; omega) HC3.out.1.2.size ?_; intro g9 c9 w9 ho9 hg9 hor9 hl9; have HC9 := hide1 (HC3.out.grow ho9 hg9); clear ho9 hg9 hor9 hl9))
      refine ⟨⟨i + 1, _, _, by rfl, by rfl, HI2.out, by rw [← HTK.out]; exact HC9.out⟩, ?_⟩
      have := HI2.out
      simp [intOf]; omega
    have hil : i = ln := by omega
    have HI := hI
    have HL1 : Hid ((lx.take i).map (·.1) = lx.map (·.1)) := by show _ = _; rw [List.take_of_length_le (by rw [HLN.out]; omega)]
    rw [HL1.out] at HI
    have HLL := hide1 (show (lx.map (·.1)).length = ln by rw [List.length_map]; exact HLN.out)
    subst hil
    have eI : ¬ ((i : Int) < (i : Int)) := by omega
    clear hI HL1 hlt hi
    go_upto_region 7 with fail
    have HI2 := hide1 (HI.out.keep ((Kept.refl wr).alloc #[.string errW, .string endW] 9))
    clear HI
    go_upto_region 8 with (at_builtin; refine wpl_many (E := strE) rfl _ _ rfl w.heap.size (.slice ga i gc) _ [errW, endW] i 2 (i + 2) HLL.out rfl rfl (by rfl) HI2.out.1.1 (some ⟨wr.heap.size, 0, none⟩) 2 (by rfl) two_src (by show (i + 2) * 16 ≤ _; have := HB.out; omega) (by unfold maxLen; have := HB.out; omega) HI2.out.1.2.size ?_; intro ga5 gc5 w5 ho5 hg5 hor5; have HI5 := hide1 (HI2.out.grow ho5 hg5); clear ho5 hg5 hor5)
    clear HI2
    have k1 : w5.cell? ⟨g1, 1, none⟩ = some (.slice na nn nc) := by have := HI5.out.2; simp [World.cell?, this]
    go_wp2_with fail
    go_loopw [3, 37] (fun v3 v37 wr => ∃ (j : Nat) (ga : Option Addr) (gc : Nat), v37 = .int .i64 (j : Int) ∧ v3 = .slice ga (i + 2 + j) gc ∧ j ≤ nn ∧ Hid (NmJ w g1 #[.slice la i lc, .slice na nn nc, .int .i64 st, vp] (.slice ga (i + 2 + j) gc) (lx.map (·.1) ++ [errW, endW] ++ nms.take j) wr)) (fun _ v37 _ => nn - (intOf v37).toNat)
    case atStart => exact ⟨0, _, _, rfl, rfl, Nat.zero_le _, by rw [List.take_zero, List.append_nil]; exact HI5.out⟩
    case round =>
      clear k1 HI5
      obtain ⟨j, ga, gc, rfl, rfl, hj, hJ⟩ := hrel
      by_cases hlt : j < nn
      · have hjl : j < nms.length := by rw [HNN.out]; exact hlt
        obtain ⟨nm, hxe⟩ : ∃ x, nms[j]'hjl = x := ⟨_, rfl⟩
        have hxi : nms[j]? = some nm := by rw [List.getElem?_eq_getElem hjl, hxe]
        obtain ⟨cb, ob, hna, k0, hsz⟩ := names_el HR2.out hxi
        subst hna
        have HTK : Hid (lx.map (·.1) ++ [errW, endW] ++ nms.take j ++ [nm] = lx.map (·.1) ++ [errW, endW] ++ nms.take (j + 1)) := by
          show _ = _
          rw [List.take_add_one, hxi, List.append_assoc _ (nms.take j)]
          rfl
        have k0 := grown_cell hJ.out.1.2 k0
        have HCL := hide1 (fun w => clone_is nm w (by omega))
        have eJ : (j : Int) < (nn : Int) := by omega
        have gjc : (j : Int) < (nc : Int) := by omega
        have HI2 := hide1 hlt
        have HJ := hJ
        have HLJ := hide1 hJ.out.1.len
        clear hJ hlt hj hxe hxi hjl hsz
        go_wp2_with (first
          | (go_at_call 35; go_must (refine (HCL.out _).mono ?_; rintro e w3 ⟨rfl, hk3⟩; have HC3 := hide1 ((HJ.out.keep hk3).keep ((Kept.refl w3).alloc (encStr nm).toArray 9)); clear hk3))
          | (at_builtin; refine wpl_lo (E := strE) rfl _ _ rfl w.heap.size (.slice ga (i + 2 + j) gc) _ (i + 2 + j) HLJ.out (by rfl) HC3.out.1.1 w3.heap.size nm (by rfl) (heap_alloc_new w3 _) (by show (i + 2 + j + 1) * 16 ≤ _; have := HI2.out; have := HB.out; omega) (by unfold maxLen; have := HI2.out; have := HB.out; omega) HC3.out.1.2.size ?_; intro g9 c9 w9 ho9 hg9 hor9 hl9; have HC9 := hide1 (HC3.out.grow ho9 hg9); clear ho9 hg9 hor9 hl9))
        refine ⟨⟨j + 1, _, _, by rfl, by rfl, HI2.out, by have h := HC9.out; rw [HTK.out] at h; exact h⟩, ?_⟩
        have := HI2.out
        simp [intOf]; omega
      have hjn : j = nn := by omega
      subst hjn
      have HJ := hJ
      have HE : Hid (lx.map (·.1) ++ [errW, endW] ++ nms.take j = NM) := by
        show _ = _
        rw [HNL.out, List.take_of_length_le (by rw [HNN.out]; omega)]
      rw [HE.out] at HJ
      have eJ : ¬ ((j : Int) < (j : Int)) := by omega
      clear hJ HE hlt hj
      go_wp2_with fail
      go_ret
      have hl : NM.length = i + 2 + j := HJ.out.1.len
      rw [hl]
      exact ⟨ga, gc, rfl, HJ.out.1.1, HJ.out.1.2⟩
end Gu
end Ex
end Go.Proofs.YtbnchnlogikecaaGreatDoor
namespace Go.Proofs.YtbnchnlogikecaaGreatDoor
open Go.Shelf
def shflays169_ren : Go.Shelf.Ren := ⟨fun | 169 => 61 | n => n, fun | 70 => 112 | 9 => 9 | 0 => 0 | 72 => 114 | 37 => 100 | 127 => 127 | 3 => 3 | 5 => 5 | n => n, fun | n => n⟩
theorem shflays169 : Go.Proofs.Lays.n169 Tryz.prog shflays169_ren := {
  mixed := by kernel_rfl
  f169 := Tryz.func61.trans (congrArg some (by kernel_rfl))
  t0 := Tryz.underlying0
  a0 := Tryz.isAgg0
  z0 := Tryz.sizeOf0
  v0 := Tryz.zeroValue0
  t3 := Tryz.underlying3
  a3 := Tryz.isAgg3
  z3 := Tryz.sizeOf3
  v3 := Tryz.zeroValue3
  t9 := Tryz.underlying9
  a9 := Tryz.isAgg9
  z9 := Tryz.sizeOf9
  v9 := Tryz.zeroValue9
  t37 := Tryz.underlying100
  a37 := Tryz.isAgg100
  z37 := Tryz.sizeOf100
  v37 := Tryz.zeroValue100
  t70 := Tryz.underlying112
  a70 := Tryz.isAgg112
  z70 := Tryz.sizeOf112
  v70 := Tryz.zeroValue112
  t72 := Tryz.underlying114
  a72 := Tryz.isAgg114
  z72 := Tryz.sizeOf114
  v72 := Tryz.zeroValue114
  t127 := Tryz.underlying127
  a127 := Tryz.isAgg127
  z127 := Tryz.sizeOf127
  v127 := Tryz.zeroValue127 }
theorem shfBuilder_Extra_169 : Builder.Extra Tryz.prog shflays169_ren := {
  sizeBuilder := by kernel_rfl
  liesBuilder := by kernel_rfl
  t5 := Tryz.underlying5
  a5 := Tryz.isAgg5
  z5 := Tryz.sizeOf5
  v5 := Tryz.zeroValue5
  infoByte := by kernel_rfl
  cellsByte := by kernel_rfl
  sizeByte := by kernel_rfl
  neB5 := by decide }
open Go.RowKit in
theorem shfBuilder_String_any (B b : Nat) (l : List UInt8) (w : World) (h : Lib.IsBuilder 114 5 B b (Lib.byteCells l) w) (hBw : B ≤ w.heap.size) :
    Calls Tryz.prog 61 #[.pointer (some ⟨b, 0, none⟩)] w fun e w' => e = .returned (.string ⟨l.toArray⟩) ∧ Below B w w' := Any.Builder_String_any shflays169 shfBuilder_Extra_169 B b l w h hBw
end Go.Proofs.YtbnchnlogikecaaGreatDoor
namespace Go.Proofs.YtbnchnlogikecaaGreatDoor
open Go.RowKit
attribute [local go_sem] Oper.semAt_some
set_option linter.unusedVariables false
set_option linter.unusedSimpArgs false
set_option maxRecDepth 100000
set_option maxHeartbeats 1000000
namespace Ex
namespace Gu
open Sh
def uI (l : List UInt8) : List Int := l.map fun c => (c.toNat : Int)
def BlA (w : World) (b base : Nat) (v : Value) (l : List UInt8) : Prop :=
  (∃ p, (p = .pointer none ∨ p = .pointer (some ⟨b, 0, none⟩)) ∧ w.heap[b]? = some (.cells #[p, v] 114 (0, 0))) ∧ OutAt w base v (uI l) ∧ v.ownBlock ≠ some b
theorem BlA.keep {w w' : World} {b base : Nat} {v : Value} {l : List UInt8} (h : BlA w b base v l) (hk : Kept w w') : BlA w' b base v l := by
  obtain ⟨⟨p, hp, hb⟩, ho, hn⟩ := h
  exact ⟨⟨p, hp, (hk.2.2.2.2 b (Array.getElem?_eq_some_iff.1 hb).1).trans hb⟩, ho.keep hk, hn⟩
theorem bl_shape {w : World} {b : Nat} {p v : Value} (h : w.heap[b]? = some (.cells #[p, v] 114 (0, 0))) : w.shape? b = some (114, 2) := by simp [World.shape?, h]
theorem bl_info0 : (Tryz.prog.info? 114).map (fun j => j.size) = some 2 := by kernel_rfl
theorem bl_info : ∃ j, Tryz.prog.info? 114 = some j ∧ j.size = 2 := Option.map_eq_some_iff.1 bl_info0
theorem bl_lies : liesAt Tryz.prog Tryz.prog.depth 114 (2 / Tryz.prog.cellsOf 114) 0 114 1 = true := by kernel_rfl
theorem check_used (b : Nat) (v : Value) (w : World) (hb : w.heap[b]? = some (.cells #[.pointer (some ⟨b, 0, none⟩), v] 114 (0, 0))) :
    Calls Tryz.prog 77 #[.pointer (some ⟨b, 0, none⟩)] w fun e w' => e = .returned (.tuple #[]) ∧ w' = w := by
  obtain ⟨j, hj, _⟩ := bl_info
  have h0 : w.cell? ⟨b, 0, none⟩ = some (.pointer (some ⟨b, 0, none⟩)) := by simp [World.cell?, hb]
  go_enter Tryz.func77, Tryz.ntmps77
  go_wp2
  rw [Lib.run_neq_ptr_same w _ Tryz.underlying112 hj]
  go_wp2
  go_end0
  exact ⟨rfl, rfl⟩
theorem check_fresh (b : Nat) (v : Value) (w : World) (hb : w.heap[b]? = some (.cells #[.pointer none, v] 114 (0, 0))) :
    Calls Tryz.prog 77 #[.pointer (some ⟨b, 0, none⟩)] w fun e w' => e = .returned (.tuple #[]) ∧ w' = w.setCell ⟨b, 0, none⟩ (.pointer (some ⟨b, 0, none⟩)) := by
  obtain ⟨j, hj, hjs⟩ := bl_info
  have h0 : w.cell? ⟨b, 0, none⟩ = some (.pointer none) := by simp [World.cell?, hb]
  have hfz : w.frozen? ⟨b, 0, none⟩ = false := by simp [World.frozen?, hb]
  have hsh := bl_shape hb
  go_enter Tryz.func77, Tryz.ntmps77
  go_wp2
  rw [Lib.run_to_unsafe w ⟨b, 0, none⟩ Tryz.underlying112 Tryz.underlying156 hj (by rw [hjs]; decide) hsh (Nat.zero_lt_succ 1)]
  simp only [Result.andThen]
  rw [Oper.upon_value]
  go_wp2
  rw [run_callFunc_extern Tryz.func94 (by kernel_rfl) (by kernel_rfl) (by kernel_rfl) (e := Extern.AbiNoEscape.same) (by kernel_rfl)]
  rw [Lib.run_noEscape]
  simp only [Result.andThen]
  rw [Oper.upon_value]
  go_wp2
  rw [Lib.run_from_unsafe w ⟨b, 0, none⟩ Tryz.underlying156 Tryz.underlying112 hj hsh bl_lies]
  simp only [Result.andThen]
  rw [Oper.upon_value]
  go_wp2
  go_end0
  exact ⟨rfl, rfl⟩
theorem uI_app (l m : List UInt8) : uI (l ++ m) = uI l ++ uI m := List.map_append
theorem uI_len (l : List UInt8) : (uI l).length = l.length := List.length_map ..
theorem write_is (b base : Nat) (v : Value) (l : List UInt8) (s : ByteArray) (w : World) (h : BlA w b base v l) (hpos : 0 < s.size) (hl : l.length + s.size ≤ 1000000000) (hbase : base ≤ w.heap.size) :
    Calls Tryz.prog 58 #[.pointer (some ⟨b, 0, none⟩), .string s] w fun e w' => e = .returned (.tuple #[.int .i64 (s.size : Int), .nilIface]) ∧ ∃ v', BlA w' b base v' (l ++ s.data.toList) ∧ KT (fun d => d = b ∨ v.ownBlock = some d) w w' ∧ Own1 w v v' := by
  obtain ⟨⟨p, hp, hb⟩, ho, hn⟩ := h
  have HO := hide1 ho
  have HN := hide1 hn
  have hlb := (Array.getElem?_eq_some_iff.1 hb).1
  have HC : Hid (Calls Tryz.prog 77 #[.pointer (some ⟨b, 0, none⟩)] w fun e w' => e = .returned (.tuple #[]) ∧ w'.heap[b]? = some (.cells #[.pointer (some ⟨b, 0, none⟩), v] 114 (0, 0)) ∧ KT (fun d => d = b) w w' ∧ (∀ d, d ≠ b → w'.heap[d]? = w.heap[d]?) ∧ w'.heap.size = w.heap.size) := by
    rcases hp with rfl | rfl
    · refine (check_fresh b v w hb).mono ?_
      rintro e w' ⟨rfl, rfl⟩
      refine ⟨rfl, ?_, KT.wide ((Kept.refl w).kt _) (set_kt w b 0 _) (fun d _ h => h), fun d hd => Below.heap_setCell _ _ _ _ (fun e => hd e), by simp [World.setCell]⟩
      simp [World.setCell, Array.getElem?_modify, hb]
    · refine (check_used b v w hb).mono ?_
      rintro e w' ⟨rfl, rfl⟩
      exact ⟨rfl, hb, (Kept.refl _).kt _, fun _ _ => rfl, rfl⟩
  have HLS := hide1 (show (uI l).length = l.length from uI_len l)
  have HLL := hide1 hl
  have HBS := hide1 hbase
  have gs : (s.size : Int) ≤ 1000000000 := by omega
  clear hp hb ho hn hl hbase
  go_enter Tryz.func58, Tryz.ntmps58
  go_upto_region 2 with (go_at_call 77; go_must (refine HC.out.mono ?_; rintro e w1 ⟨rfl, hb1, hk1, hh1, hs1⟩; have c1 : w1.cell? ⟨b, 1, none⟩ = some v := by { simp [World.cell?, hb1] }))
  have HO1 : Hid (OutAt w1 base v (uI l)) := owns_same HO.out (fun d hd => hh1 d (fun e => HN.out (by rw [hd, e])))
  have HB1 := hide1 hb1
  have HK1 := hide1 hk1
  have HS1 := hide1 hs1
  clear hb1 hk1 hh1 hs1 hlb
  go_wp2_with (at_builtin; refine wpl_out_str rfl _ _ rfl w1 base v (uI l) l.length HLS.out (by rfl) HO1.out s (by rfl) hpos HLL.out (by rw [HS1.out]; exact HBS.out) ?_; intro v2 w2 ho2 hg2 hw2; have HO2 := hide1 ho2; have HG2 := hide1 hg2; have HW2 := hide1 hw2; have HB2 := hide1 (show w2.heap[b]? = some (.cells #[.pointer (some ⟨b, 0, none⟩), v] 114 (0, 0)) from (hg2.block b (Array.getElem?_eq_some_iff.1 HB1.out).1 (fun e => HN.out e.symm)).trans HB1.out); have d1 : w2.cell? ⟨b, 1, none⟩ = some v := by { have := HB2.out; simp [World.cell?, this] }; have f1 : w2.frozen? ⟨b, 1, none⟩ = false := by { have := HB2.out; simp [World.frozen?, this] }; have hlb := (Array.getElem?_eq_some_iff.1 HB2.out).1; obtain ⟨a9, c9, e9⟩ := ho2.form; subst e9; clear ho2 hg2 hw2)
  go_ret2
  have hne : (Value.slice a9 ((uI l).length + (strI s).length) c9).ownBlock ≠ some b := by
    have h := Lib.ownBlock_ne HO2.out HB2.out (by decide)
    rw [List.length_append] at h
    exact h
  have hsame : ∀ d, (Value.slice a9 ((uI l).length + (strI s).length) c9).ownBlock = some d → (w2.setCell ⟨b, 1, none⟩ (.slice a9 ((uI l).length + (strI s).length) c9)).heap[d]? = w2.heap[d]? := fun d hd => Below.heap_setCell _ _ _ _ (fun e => hne (by rw [hd]; exact congrArg some e))
  refine ⟨rfl, .slice a9 ((uI l).length + (strI s).length) c9, ⟨⟨_, .inr rfl, ?_⟩, ?_, hne⟩, ?_, ?_⟩
  · have := HB2.out
    simp [World.setCell, Array.getElem?_modify, this]
  · rw [uI_app]
    have h := HO2.out
    rw [List.length_append] at h
    exact owns_same h hsame
  · refine KT.wide (KT.wide (KT.wide ((Kept.refl w).kt _) HK1.out (fun d _ h => .inl h)) ⟨HG2.out.os, HG2.out.tape, HG2.out.output, HG2.out.size, fun d hd hn => HG2.out.block d hd (fun e => hn e.symm)⟩ (fun d _ h => .inr h)) (set_kt _ _ _ _) (fun d _ h => .inl h)
  · have h := HW2.out
    rw [List.length_append] at h
    rcases h with h | ⟨g, h, hg⟩
    · exact .inl h
    · exact .inr ⟨g, h, by rw [HS1.out] at hg; exact hg⟩
theorem string_is (b base : Nat) (v : Value) (l : List UInt8) (w : World) (h : BlA w b base v l) (hb : base ≤ b) (hbase : base ≤ w.heap.size) :
    Calls Tryz.prog 61 #[.pointer (some ⟨b, 0, none⟩)] w fun e w' => e = .returned (.string ⟨l.toArray⟩) ∧ Below base w w' := by
  refine shfBuilder_String_any base b l w ?_ hbase
  obtain ⟨⟨p, hp, hb1⟩, ho, hn⟩ := h
  have ho2 : w.ownsRow base 5 1 v (Lib.byteCells l).length (Lib.byteCells l) := by
    unfold OutAt at ho
    have e1 : byteV (uI l) = Lib.byteCells l := by simp [byteV, uI, Lib.byteCells]
    rw [e1] at ho
    have e2 : (uI l).length = (Lib.byteCells l).length := by rw [uI_len, Lib.byteCells_length]
    rw [e2] at ho
    exact ho
  rcases hp with rfl | rfl
  · exact .inl ⟨hb, v, hb1, ho2, hn⟩
  · exact .inr ⟨hb, v, hb1, ho2, hn⟩
end Gu
end Ex
end Go.Proofs.YtbnchnlogikecaaGreatDoor
namespace Go.Proofs.YtbnchnlogikecaaGreatDoor
open Go.RowKit
attribute [local go_sem] Oper.semAt_some
set_option linter.unusedVariables false
set_option linter.unusedSimpArgs false
set_option maxRecDepth 100000
set_option maxHeartbeats 2000000
namespace Ex
namespace Gu
open Sh Gs
def numM (ln : Nat) (x : SymM) : Int := if x.1 = 2 then (ln : Int) else if x.1 = 3 then (ln : Int) + 2 + x.2 else x.2
theorem number_is (ln : Nat) (kd n : Int) (hl : ln ≤ 1000000) (hn : 0 ≤ n ∧ n ≤ 1000000) (w : World) :
    Calls Tryz.prog 60 #[.agg #[.int .i64 kd, .int .i64 n], .int .i64 (ln : Int)] w fun e w' => e = .returned (.int .i64 (numM ln (kd, n))) ∧ Kept w w' := by
  obtain ⟨R, hR⟩ : ∃ R, numM ln (kd, n) = R := ⟨_, rfl⟩
  rw [hR]
  unfold numM at hR
  dsimp only at hR
  have HK1 := hide1 ((Kept.refl w).alloc #[.int .i64 kd, .int .i64 n] 77)
  have HS1 := hide1 (sy_new w kd n)
  obtain ⟨n0, n1⟩ := hn
  have lI : (ln : Int) ≤ 1000000 := by omega
  by_cases h2 : kd = 2
  · subst h2
    rw [if_pos rfl] at hR
    go_enter Tryz.func60, Tryz.ntmps60
    go_upto_region 1 with fail
    generalize w.alloc (.cells #[.int .i64 2, .int .i64 n] 77) = W1 at HK1 HS1 ⊢
    obtain ⟨⟨s0, s1⟩, -⟩ := HS1.out.facts
    go_wp2_with fail
    go_ret
    exact ⟨by rw [← hR]; rfl, HK1.out⟩
  rw [if_neg h2] at hR
  have e2 : (kd == 2) = false := by simpa using h2
  by_cases h3 : kd = 3
  · subst h3
    rw [if_pos rfl] at hR
    clear h2 e2
    go_enter Tryz.func60, Tryz.ntmps60
    go_upto_region 1 with fail
    generalize w.alloc (.cells #[.int .i64 3, .int .i64 n] 77) = W1 at HK1 HS1 ⊢
    obtain ⟨⟨s0, s1⟩, -⟩ := HS1.out.facts
    go_wp2_with fail
    go_ret
    exact ⟨by rw [← hR]; rfl, HK1.out⟩
  rw [if_neg h3] at hR
  have e3 : (kd == 3) = false := by simpa using h3
  clear h2 h3
  subst hR
  go_enter Tryz.func60, Tryz.ntmps60
  go_upto_region 1 with fail
  generalize w.alloc (.cells #[.int .i64 kd, .int .i64 n] 77) = W1 at HK1 HS1 ⊢
  obtain ⟨⟨s0, s1⟩, -⟩ := HS1.out.facts
  go_wp2_with fail
  go_ret
  exact ⟨rfl, HK1.out⟩
def tokenW : ByteArray := ⟨#[116, 111, 107, 101, 110, 32]⟩
def skipW : ByteArray := ⟨#[115, 107, 105, 112, 32]⟩
def isW : ByteArray := ⟨#[32, 61, 32, 47]⟩
def offW : ByteArray := ⟨#[47, 59, 10]⟩
def lineM (x : LxM) (p : ByteArray) : ByteArray := (((if x.2.1 = true then skipW else tokenW) ++ x.1) ++ isW ++ p) ++ offW
theorem ruleLine_is (nm pt : ByteArray) (tr : Bool) (e0 e1 e2 e3 e4 : Int) (v : Value) (w : World) (h1 : nm.size ≤ 100000) (h2 : pt.size ≤ 100000) :
    Calls Tryz.prog 59 #[.agg #[.string nm, .bool tr, .int .i64 e0, .int .i64 e1, .int .i64 e2, .int .i64 e3, .int .i64 e4, v], .string pt] w fun e w' => e = .returned (.string ((((if tr = true then skipW else tokenW) ++ nm) ++ isW ++ pt) ++ offW)) ∧ Kept w w' := by
  have HK1 := hide1 ((Kept.refl w).alloc #[.string nm, .bool tr, .int .i64 e0, .int .i64 e1, .int .i64 e2, .int .i64 e3, .int .i64 e4, v] 72)
  have HB1 : Hid ((w.alloc (.cells #[.string nm, .bool tr, .int .i64 e0, .int .i64 e1, .int .i64 e2, .int .i64 e3, .int .i64 e4, v] 72)).heap[w.heap.size]? = some (.cells #[.string nm, .bool tr, .int .i64 e0, .int .i64 e1, .int .i64 e2, .int .i64 e3, .int .i64 e4, v] 72 (0, 0))) := heap_alloc_new w _
  cases tr <;>
  · go_enter Tryz.func59, Tryz.ntmps59
    go_upto_region 1 with fail
    obtain ⟨g2, hg2⟩ : ∃ g, w.heap.size = g := ⟨_, rfl⟩
    generalize w.alloc (.cells #[.string nm, .bool _, .int .i64 e0, .int .i64 e1, .int .i64 e2, .int .i64 e3, .int .i64 e4, v] 72) = W1 at HK1 HB1 ⊢
    rw [hg2] at HB1 ⊢
    clear hg2
    have k0 : W1.cell? ⟨g2, 0, none⟩ = some (.string nm) := by have := HB1.out; simp [World.cell?, this]
    have k1 : W1.cell? ⟨g2, 1, none⟩ = some (.bool _) := by { have := HB1.out; simp [World.cell?, this]; rfl }
    go_wp2_with fail
    go_ret
    exact ⟨rfl, HK1.out⟩
end Gu
end Ex
end Go.Proofs.YtbnchnlogikecaaGreatDoor
