import Derived.Test.YtbnchnlogikecaaGreatDoorNGwP
import Derived.Test.YtbnchnlogikecaaGreatDoorNGuV
import Derived.Test.YtbnchnlogikecaaGreatDoorNExFr0
import Derived.Test.YtbnchnlogikecaaGreatDoorNGu6
import Derived.Test.YtbnchnlogikecaaGreatDoorNGt1
import Derived.Test.YtbnchnlogikecaaGreatDoorNGuE
import Derived.Test.YtbnchnlogikecaaGreatDoorCards
import Derived.Test.YtbnchnlogikecaaGreatDoorTie
import Derived.WalkKit
import Derived.ShutString
import Derived.ChangeOld
import Derived.Below
import Derived.OwnWalk
namespace Go.Proofs.YtbnchnlogikecaaGreatDoor
open Go.RowKit
attribute [local go_sem] Oper.semAt_some
set_option linter.unusedVariables false
namespace Ex
namespace Gu
open Sh Gs
theorem write_bad {sp : SpV} (h : (writeM sp).2.1 ≠ 0) : (writeM sp).1 = ⟨#[]⟩ := by
  unfold writeM at h ⊢
  split
  · rfl
  · rename_i r hc
    split
    · rfl
    · rename_i hl
      rw [hc] at h
      dsimp only at h
      rw [if_neg hl] at h
      exact absurd rfl h
theorem write_good {sp : SpV} (h : (writeM sp).2.1 = 0) : (∃ r, checkC sp = .ok r) ∧ (linesM sp).length ≤ 65536 ∧ writeM sp = (⟨(linesM sp).toArray⟩, (0, 0, ⟨#[]⟩)) := by
  unfold writeM at h ⊢
  split at h
  · rename_i f hc
    exact absurd h (checkC_bad sp f hc)
  · rename_i r hc
    split at h
    · exact absurd h (by decide)
    · rename_i hl
      exact ⟨⟨r, hc⟩, by omega, by rw [if_neg hl]⟩
theorem round_all {sp : SpV} (h : (writeM sp).2.1 = 0) : ∃ s, parseG (writeM sp).1 = .ok s ∧ s.st = sp.start ∧ writeM (spv s) = writeM sp ∧ ∀ (w : World) vl vn vp, SpR w vl vn vp (spv s) → SpR w vl vn vp { sp with lex := comL sp } := by
  obtain ⟨⟨r, hc⟩, hl, hw⟩ := write_good h
  obtain ⟨s, h1, h2, h3⟩ := round_back_spec hc (T := ⟨(linesM sp).toArray⟩) (by simp [bl]) (by show (linesM sp).toArray.size ≤ _; simpa using hl)
  refine ⟨s, by rw [hw]; exact h1, ?_, ?_, fun w vl vn vp hr => ?_⟩
  · have e : (spv s).start = s.st := rfl
    rw [← e, h2]
  · rw [h2]
    exact write_map (fun x hx => ⟨rfl, rfl, (same_print (h3 x hx)).1, (same_print (h3 x hx)).2⟩)
  · rw [h2] at hr
    exact SpR.comB hr h3
end Gu
end Ex
end Go.Proofs.YtbnchnlogikecaaGreatDoor
namespace Go.Proofs.YtbnchnlogikecaaGreatDoor
open Go.RowKit
attribute [local go_sem] Oper.semAt_some
set_option linter.unusedVariables false
set_option linter.unusedSimpArgs false
set_option maxRecDepth 100000
set_option maxHeartbeats 4000000
namespace Ex
namespace Gu
open Sh Gs
def formM (T : ByteArray) : ByteArray × Flt :=
  match parseG T with
  | .error f => (⟨#[]⟩, f)
  | .ok s => ((writeM (spv s)).1, ((writeM (spv s)).2.1, 0, ⟨#[]⟩))
theorem parseG_bad (T : ByteArray) : Bad (parseG T) := by
  unfold parseG
  split
  · exact bad_lit (by decide)
  · exact whole_bad (T := T) (s := st0)
theorem two_res (w : World) (x0 x1 x2 x3 y0 y1 y2 : Value) : ResB ((w.alloc (.cells #[x0, x1, x2, x3] 27)).alloc (.cells #[y0, y1, y2] 30)) w.heap.size (w.heap.size + 1) x0 x1 x2 x3 y0 y1 y2 := by
  refine ⟨by omega, (heap_alloc_old _ _ (by simp)).trans (heap_alloc_new w _), ?_⟩
  have h := heap_alloc_new (w.alloc (.cells #[x0, x1, x2, x3] 27)) (.cells #[y0, y1, y2] 30)
  rw [World.size_alloc] at h
  exact h
theorem ResB.kept {w w' : World} {g g' : Nat} {x0 x1 x2 x3 y0 y1 y2 : Value} (h : ResB w g g' x0 x1 x2 x3 y0 y1 y2) (hk : Kept w w') : ResB w' g g' x0 x1 x2 x3 y0 y1 y2 := ResB.keep h (hk.2.2.2.2 _ h.facts.2.2.2.2.1) (hk.2.2.2.2 _ h.facts.2.2.2.2.2)
theorem FbB.kept {w w' : World} {g : Nat} {a b : Int} {s : ByteArray} (h : FbB w g a b s) (hk : Kept w w') : FbB w' g a b s := (hk.2.2.2.2 g (Array.getElem?_eq_some_iff.1 h).1).trans h
theorem FormatS_is (T : ByteArray) (w : World) (hP : PowAt w) :
    Calls Tryz.prog 15 #[.string T] w fun e w' => e = .returned (.tuple #[.string (formM T).1, fltV (formM T).2]) ∧ Kept w w' := by
  have HPS := hide1 (fun w1 => Parse_rd T w1)
  have hPP := parseG_bad T
  have hfm : formM T = match parseG T with
    | .error f => (⟨#[]⟩, f)
    | .ok s => ((writeM (spv s)).1, ((writeM (spv s)).2.1, 0, ⟨#[]⟩)) := rfl
  have HPW := hide1 hP
  have HF1 : Hid (FbB (w.alloc (.cells #[.int .i64 0, .int .i64 0, .string ⟨#[]⟩] 30)) w.heap.size 0 0 ⟨#[]⟩) := heap_alloc_new w _
  have HK1 : Hid (Kept w (w.alloc (.cells #[.int .i64 0, .int .i64 0, .string ⟨#[]⟩] 30))) := (Kept.refl w).alloc _ _
  cases hx : parseG T with
  | error f =>
    rw [hx] at HPS hfm hPP
    obtain ⟨f0, f1, f2⟩ := f
    have hne : f0 ≠ 0 := hPP _ rfl
    have hn : (f0 != 0) = true := by simpa using hne
    rw [hfm]
    unfold fltV
    dsimp only
    clear hfm hPP hx hne hP
    go_enter Tryz.func15, Tryz.ntmps15
    go_upto_region 1 with fail
    obtain ⟨W1, hW1⟩ : ∃ W1, w.alloc (.cells #[.int .i64 0, .int .i64 0, .string ⟨#[]⟩] 30) = W1 := ⟨_, rfl⟩
    rw [hW1] at HF1 HK1 ⊢
    obtain ⟨g1, hg1⟩ : ∃ g, w.heap.size = g := ⟨_, rfl⟩
    have HG1 := hide1 (show w.heap.size ≤ g1 by omega)
    rw [hg1] at HF1 ⊢
    clear hW1 hg1
    go_wp2_with fail
    go_at_call 10
    refine (HPS.out W1).mono ?_
    rintro e w2 ⟨hk2, rfl⟩
    unfold noV fltV
    have HB2 := hide1 (two_res w2 (.slice none 0 0) (.slice none 0 0) (.int .i64 0) (.slice none 0 0) (.int .i64 f0) (.int .i64 f1) (.string f2))
    have HK2 := hide1 ((hk2.alloc #[.slice none 0 0, .slice none 0 0, .int .i64 0, .slice none 0 0] 27).alloc #[.int .i64 f0, .int .i64 f1, .string f2] 30)
    clear hk2
    go_upto_region 2 with fail
    obtain ⟨d2, hd2⟩ : ∃ g, w2.heap.size + 1 = g := ⟨_, rfl⟩
    rw [hd2] at HB2 ⊢
    clear hd2
    obtain ⟨d1, hd1⟩ : ∃ g, w2.heap.size = g := ⟨_, rfl⟩
    generalize (w2.alloc (.cells #[.slice none 0 0, .slice none 0 0, .int .i64 0, .slice none 0 0] 27)).alloc (.cells #[.int .i64 f0, .int .i64 f1, .string f2] 30) = W2 at HB2 HK2 ⊢
    rw [hd1] at HB2 ⊢
    clear hd1
    have HF2 := hide1 (FbB.kept HF1.out HK2.out)
    obtain ⟨-, ⟨b0, b1, b2⟩, -⟩ := HB2.out.facts
    obtain ⟨⟨c0, c1, c2⟩, z0, z1, z2⟩ := HF2.out.facts
    have hlg := (Array.getElem?_eq_some_iff.1 HF2.out).1
    go_wp2_with fail
    go_region
    all_goals (
      try go_wp2_with fail
      refine bodyPost_ret (wr_results rfl _ _ g1 ⟨#[]⟩ f0 f1 f2 rfl rfl (FbB.set (by first | exact HF2.out | exact FbB.kept HF2.out (drew_kept _) | exact FbB.kept HF2.out (drewN_kept _ _)) f0 f1 f2)) rfl ?_
      exact ⟨rfl, gtrans (keep_set (keep_set (keep_set (gtrans HK1.out HK2.out) HG1.out) HG1.out) HG1.out) (by first | exact drew_kept _ | exact drewN_kept _ _ | exact Kept.refl _)⟩)
  | ok s =>
    rw [hx] at HPS hfm
    have hfm2 : formM T = ((writeM (spv s)).1, ((writeM (spv s)).2.1, 0, ⟨#[]⟩)) := hfm
    rw [hfm2]
    have HPR := hide1 (fun la na pa ln lc nn nc pn pc w1 (hr : SpR w1 (.slice la ln lc) (.slice na nn nc) (.slice pa pn pc) (spv s)) (hk : Kept w w1) => PrintS_is la na pa ln lc nn nc pn pc (spv s) w1 hr (hP.keep hk))
    obtain ⟨⟨tx, f0, f1, f2⟩, hY⟩ : ∃ Y, writeM (spv s) = Y := ⟨_, rfl⟩
    rw [hY] at HPR ⊢
    have hss : (spv s).start = s.st := rfl
    rw [hss] at HPR
    unfold fltV
    dsimp only at HPR ⊢
    obtain ⟨st, hst⟩ : ∃ st, s.st = st := ⟨_, rfl⟩
    have HST := hide1 hst
    rw [hst] at HPR
    clear hfm hfm2 hPP hx hP hY hss hst
    go_enter Tryz.func15, Tryz.ntmps15
    go_upto_region 1 with fail
    obtain ⟨W1, hW1⟩ : ∃ W1, w.alloc (.cells #[.int .i64 0, .int .i64 0, .string ⟨#[]⟩] 30) = W1 := ⟨_, rfl⟩
    rw [hW1] at HF1 HK1 ⊢
    obtain ⟨g1, hg1⟩ : ∃ g, w.heap.size = g := ⟨_, rfl⟩
    have HG1 := hide1 (show w.heap.size ≤ g1 by omega)
    rw [hg1] at HF1 ⊢
    clear hW1 hg1
    go_wp2_with fail
    go_at_call 10
    refine (HPS.out W1).mono ?_
    rintro e w2 ⟨hk2, xa, xn, xc, xd, xo, xe, xf, xp, xg, rfl, hr2⟩
    unfold okV
    rw [HST.out]
    have HB2 := hide1 (two_res w2 (.slice xa xn xc) (.slice xd xo xe) (.int .i64 st) (.slice xf xp xg) (.int .i64 0) (.int .i64 0) (.string ⟨#[]⟩))
    have HL2 := hide1 (((Kept.refl w2).alloc #[.slice xa xn xc, .slice xd xo xe, .int .i64 st, .slice xf xp xg] 27).alloc #[.int .i64 0, .int .i64 0, .string ⟨#[]⟩] 30)
    have HK2 := hide1 (gtrans hk2 HL2.out)
    have HR2 := hide1 (hr2.keep HL2.out)
    clear hk2 hr2
    go_upto_region 2 with fail
    obtain ⟨d2, hd2⟩ : ∃ g, w2.heap.size + 1 = g := ⟨_, rfl⟩
    rw [hd2] at HB2 ⊢
    clear hd2
    obtain ⟨d1, hd1⟩ : ∃ g, w2.heap.size = g := ⟨_, rfl⟩
    generalize (w2.alloc (.cells #[.slice xa xn xc, .slice xd xo xe, .int .i64 st, .slice xf xp xg] 27)).alloc (.cells #[.int .i64 0, .int .i64 0, .string ⟨#[]⟩] 30) = W2 at HB2 HK2 HL2 HR2 ⊢
    rw [hd1] at HB2 ⊢
    clear hd1 HL2
    obtain ⟨⟨x0, x1, x2, x3⟩, ⟨b0, b1, b2⟩, -⟩ := HB2.out.facts
    go_upto_region 5 with (go_at_call 13; go_must (refine (HPR.out _ _ _ _ _ _ _ _ _ _ HR2.out (gtrans HK1.out HK2.out)).mono ?_; rintro e w3 ⟨rfl, hk3⟩; have HK3 := hide1 (gtrans HK2.out hk3); clear hk3))
    clear x0 x1 x2 x3 b0 b1 b2
    have HF3 := hide1 (FbB.kept HF1.out HK3.out)
    obtain ⟨⟨c0, c1, c2⟩, z0, z1, z2⟩ := HF3.out.facts
    have hlg := (Array.getElem?_eq_some_iff.1 HF3.out).1
    go_wp2_with fail
    refine bodyPost_ret (wr_results rfl _ _ g1 tx f0 0 ⟨#[]⟩ rfl rfl (FbB.set HF3.out f0 0 ⟨#[]⟩)) rfl ?_
    exact ⟨rfl, keep_set (keep_set (keep_set (gtrans HK1.out HK3.out) HG1.out) HG1.out) HG1.out⟩
theorem sumR_take {ps : List ProdM} {j : Nat} {p : ProdM} (h : ps[j]? = some p) : sumR (ps.take (j + 1)) = sumR (ps.take j) + (2 + 65 * p.2.length) := by
  rw [take_snoc h]
  unfold sumR
  rw [List.map_append, List.sum_append]
  simp
theorem sumR_le {ps : List ProdM} (h : ∀ p ∈ ps, p.2.length ≤ 16) : sumR ps ≤ ps.length * 1100 := by
  induction ps with
  | nil => exact Nat.le_refl _
  | cons p ps ih =>
    have h1 := ih (fun q hq => h q (List.mem_cons_of_mem _ hq))
    have h2 := h p (List.mem_cons_self ..)
    rw [sumR_cons, List.length_cons, Nat.add_mul]
    omega
theorem grows_is (la na pa : Option Addr) (ln lc nn nc pn pc : Nat) (sp : SpV) (w : World) (hr : SpR w (.slice la ln lc) (.slice na nn nc) (.slice pa pn pc) sp) (hP : PowAt w) (hl : ln ≤ 64) (hn : nn ≤ 128) (hp : pn ≤ 512) (h16 : ∀ p ∈ sp.prd, p.2.length ≤ 16)
    (hc : ∀ x ∈ sp.lex, checkP x.2.2.2 = 0) (hg : (∀ x ∈ sp.lex, printE x.2.2.2 = 0) → 65536 < growN sp) :
    Calls Tryz.prog 16 #[.agg #[.slice la ln lc, .slice na nn nc, .int .i64 sp.start, .slice pa pn pc]] w fun e w' => e = .returned (.bool true) ∧ Kept w w' := by
  obtain ⟨hl1, hl2, hl3⟩ := slice_n hr.1
  obtain ⟨hn1, hn2, hn3⟩ := slice_n hr.2.1
  obtain ⟨hp1, hp2, hp3⟩ := slice_n hr.2.2
  have HR := hide1 hr
  have HP := hide1 hP
  have HLN := hide1 hl1
  have HPN := hide1 hp1
  have H16 := hide1 h16
  have HC := hide1 hc
  have HGR : Hid ((∀ x ∈ sp.lex, printE x.2.2.2 = 0) → (65536 : Int) < (nn : Int) * 200 + (ln : Int) * 5000 + (sumR sp.prd : Int)) := fun h => by
    have := hg h
    unfold growN at this
    rw [hl1, hn1] at this
    omega
  have hsl := sumR_le h16
  rw [hp1] at hsl
  have HSL : Hid (∀ j, sumR (sp.prd.take j) ≤ 563200) := fun j => by
    have h1 := sumR_split sp.prd j
    have h2 : sumR sp.prd ≤ 563200 := by omega
    omega
  obtain ⟨st, hst⟩ : ∃ st, sp.start = st := ⟨_, rfl⟩
  rw [hst]
  have g1 : (ln : Int) ≤ 64 := by omega
  have g2 : (ln : Int) ≤ (lc : Int) := by omega
  have g3 : (nn : Int) ≤ 128 := by omega
  have g5 : (pn : Int) ≤ 512 := by omega
  have g6 : (pn : Int) ≤ (pc : Int) := by omega
  have HB := hide1 (SpB.new w (.slice la ln lc) (.slice na nn nc) (.int .i64 st) (.slice pa pn pc))
  have HK1 : Hid (Kept w (w.alloc (.cells #[.slice la ln lc, .slice na nn nc, .int .i64 st, .slice pa pn pc] 27))) := (Kept.refl w).alloc _ _
  clear hr hP hl1 hl2 hl3 hn1 hn2 hn3 hp1 hp2 hp3 hl hn hp h16 hc hg hsl hst
  go_enter Tryz.func16, Tryz.ntmps16
  go_upto_region 1 with fail
  obtain ⟨W1, hW1⟩ : ∃ W1, w.alloc (.cells #[.slice la ln lc, .slice na nn nc, .int .i64 st, .slice pa pn pc] 27) = W1 := ⟨_, rfl⟩
  rw [hW1] at HB HK1 ⊢
  obtain ⟨gb, hgb⟩ : ∃ g, w.heap.size = g := ⟨_, rfl⟩
  rw [hgb] at HB ⊢
  clear hW1 hgb
  obtain ⟨⟨a0, a1, a2, a3⟩, -⟩ := HB.out.facts
  go_wp2_with fail
  clear a0 a1 a2 a3
  go_loopw [3, 4] (fun v3 v4 wr => ∃ j : Nat, v3 = .int .i64 ((nn : Int) * 200 + (j : Int) * 5000) ∧ v4 = .int .i64 (j : Int) ∧ j ≤ ln ∧ Hid (Kept W1 wr) ∧ Hid (∀ (i : Nat) (x : LxM), i < j → sp.lex[i]? = some x → printE x.2.2.2 = 0)) (fun _ v4 _ => ln - (intOf v4).toNat)
  case atStart => exact ⟨0, by simp, rfl, Nat.zero_le _, Kept.refl _, fun i x h => absurd h (by omega)⟩
  case round =>
    obtain ⟨j, rfl, rfl, hj, HKr, HZ⟩ := hrel
    obtain ⟨⟨a0, a1, a2, a3⟩, -⟩ := (HB.out.keep HKr.out).facts
    by_cases hlt : (j : Int) < (ln : Int)
    · obtain ⟨x, hx⟩ : ∃ x, sp.lex[j]? = some x := ⟨_, List.getElem?_eq_getElem (by have := HLN.out; omega)⟩
      obtain ⟨cb, o, ka, kn, kc, ea, ⟨q0, q1, q2, q3, q4, q5, q6, q7⟩, hka⟩ := lex_el (HR.out.keep (gtrans HK1.out HKr.out)).1 hx
      subst ea
      have hcx := HC.out x (List.mem_of_getElem? hx)
      obtain ⟨nm, tr, n, p⟩ := x
      dsimp only at q0 q1 q2 q3 q4 q5 q6 q7 hka hcx
      have HX := hide1 hx
      have HKA := hide1 hka
      obtain ⟨kp, hkp⟩ : ∃ z, kind p = z := ⟨_, rfl⟩
      obtain ⟨fp, hfp⟩ : ∃ z, from_ p = z := ⟨_, rfl⟩
      obtain ⟨tp, htp⟩ : ∃ z, to_ p = z := ⟨_, rfl⟩
      obtain ⟨mp, hmp⟩ : ∃ z, min_ p = z := ⟨_, rfl⟩
      obtain ⟨xp, hxp⟩ : ∃ z, max_ p = z := ⟨_, rfl⟩
      have hpe : printE p = 0 ∨ printE p = 2 := by
        unfold printE
        rw [if_pos hcx]
        split
        · exact .inr rfl
        · exact .inl rfl
      have hsz : sizeP (n + 1) p ≤ 4500 := by
        have hb : boundsP p = 0 := by
          unfold checkP at hcx
          split at hcx
          · assumption
          · exact absurd hcx (by assumption)
        exact (small_size (small_bounds hb)).1
      obtain ⟨ps, hps⟩ : ∃ z, printS p = z := ⟨_, rfl⟩
      obtain ⟨pe, hpee⟩ : ∃ z, printE p = z := ⟨_, rfl⟩
      have HCP : Hid (∀ w1, Kept wr w1 → Calls Tryz.prog 32 #[.agg #[.int .i64 kp, .int .i64 fp, .int .i64 tp, .int .i64 mp, .int .i64 xp, .slice ka kn kc]] w1 fun e w' => Hid (∃ v2, e = .returned (.agg #[.int .i64 kp, .int .i64 fp, .int .i64 tp, .int .i64 mp, .int .i64 xp, v2]) ∧ KidsAt (fun d => w1.heap.size ≤ d) w' n (kids p) v2) ∧ Kept w1 w') := fun w1 hk => by
        have := copied_is _ n p _ w1 (HKA.out.kept hk) hsz
        rw [valOf_eq] at this
        simp only [valOf_eq] at this
        rw [hkp, hfp, htp, hmp, hxp] at this
        exact this
      have HPR : Hid (∀ w1 v, KidsAt (fun d => d < w1.heap.size) w1 n (kids p) v → Kept W1 w1 → Calls Tryz.prog 34 #[.agg #[.int .i64 kp, .int .i64 fp, .int .i64 tp, .int .i64 mp, .int .i64 xp, v]] w1 fun e w' => e = .returned (.tuple #[.string ps, .int .i64 pe]) ∧ Kept w1 w') := fun w1 v hv hk => by
        have := Print_is _ n p v w1 hv (fun d hd => hd) (HP.out.keep (gtrans HK1.out hk))
        rw [valOf_eq, hkp, hfp, htp, hmp, hxp, hps, hpee] at this
        exact this
      rw [hkp] at q2
      rw [hfp] at q3
      rw [htp] at q4
      rw [hmp] at q5
      rw [hxp] at q6
      rw [hpee] at hpe
      have HPEE := hide1 hpee
      clear hx hka hcx hkp hfp htp hmp hxp hps hpee hsz
      rcases hpe with h0 | h2
      · subst h0
        go_wp2_with (first
          | (go_at_call 32; refine (HCP.out _ (Kept.refl _)).mono ?_; rintro e w6 ⟨h6, hk6⟩; obtain ⟨v6, rfl, hm6⟩ := h6.out; have HM6 := hide1 (KidsAt.mono (fun _ _ _ _ h => h) (fun d hd => hd.2) _ _ _ (KidsAt.tight _ _ _ hm6)); have HK6 := hide1 (gtrans HKr.out hk6); clear h6 hm6 hk6)
          | (go_at_call 34; refine (HPR.out _ _ HM6.out HK6.out).mono ?_; rintro e w7 ⟨rfl, hk7⟩; have HK7 := hide1 (gtrans HK6.out hk7); clear hk7))
        go_roundw
        case rel =>
          refine ⟨j + 1, by push_cast; congr 1; omega, by go_num, by omega, HK7, fun i y hi hy => ?_⟩
          by_cases hij : i = j
          · subst hij
            have := HX.out
            rw [hy] at this
            rw [Option.some.inj this]
            exact HPEE.out
          · exact HZ.out i y (by omega) hy
        case measure => simp [intOf]; omega
      · subst h2
        go_wp2_with (first
          | (go_at_call 32; refine (HCP.out _ (Kept.refl _)).mono ?_; rintro e w6 ⟨h6, hk6⟩; obtain ⟨v6, rfl, hm6⟩ := h6.out; have HM6 := hide1 (KidsAt.mono (fun _ _ _ _ h => h) (fun d hd => hd.2) _ _ _ (KidsAt.tight _ _ _ hm6)); have HK6 := hide1 (gtrans HKr.out hk6); clear h6 hm6 hk6)
          | (go_at_call 34; refine (HPR.out _ _ HM6.out HK6.out).mono ?_; rintro e w7 ⟨rfl, hk7⟩; have HK7 := hide1 (gtrans HK6.out hk7); clear hk7))
        go_ret
        exact ⟨rfl, gtrans HK1.out HK7.out⟩
    · have hjl : j = ln := by omega
      subst hjl
      have HALL : Hid ((65536 : Int) < (nn : Int) * 200 + (j : Int) * 5000 + (sumR sp.prd : Int)) := HGR.out (fun x hx => by
        obtain ⟨i, hi⟩ := List.getElem?_of_mem hx
        exact HZ.out i x (by have := (List.getElem?_eq_some_iff.1 hi).1; have := HLN.out; omega) hi)
      go_wp2_with fail
      obtain ⟨wq, hwq⟩ : ∃ wq, wq = wr := ⟨_, rfl⟩
      subst hwq
      go_loopw [3, 7] (fun v3 v7 wr => ∃ m : Nat, v3 = .int .i64 ((nn : Int) * 200 + (j : Int) * 5000 + (sumR (sp.prd.take m) : Int)) ∧ v7 = .int .i64 (m : Int) ∧ m ≤ pn ∧ Hid (Kept wq wr)) (fun _ v7 _ => pn - (intOf v7).toNat)
      case atStart => exact ⟨0, by simp [sumR], rfl, Nat.zero_le _, Kept.refl _⟩
      case round =>
        obtain ⟨m, rfl, rfl, hm, HKt⟩ := hrel
        obtain ⟨⟨b0, b1, b2, b3⟩, -⟩ := (HB.out.keep (gtrans HKr.out HKt.out)).facts
        have hs0 := HSL.out m
        by_cases hlt2 : (m : Int) < (pn : Int)
        · obtain ⟨p, hp⟩ : ∃ p, sp.prd[m]? = some p := ⟨_, List.getElem?_eq_getElem (by have := HPN.out; omega)⟩
          obtain ⟨cb, o, ra, rc, ea, q0, q1, hra⟩ := prods_el (HR.out.keep (gtrans HK1.out (gtrans HKr.out HKt.out))).2.2 hp
          subst ea
          have h16 := H16.out p (List.mem_of_getElem? hp)
          have HSM := hide1 (sumR_take hp)
          obtain ⟨pl, row⟩ := p
          dsimp only at q0 q1 h16 HSM
          obtain ⟨rn, hrn⟩ : ∃ z, row.length = z := ⟨_, rfl⟩
          rw [hrn] at q1 h16 HSM
          obtain ⟨sm, hsm⟩ : ∃ z, sumR (sp.prd.take m) = z := ⟨_, rfl⟩
          rw [hsm] at HSM hs0 ⊢
          have gr : (rn : Int) ≤ 16 := by omega
          have gs : (sm : Int) ≤ 563200 := by omega
          clear hp hra hrn hsm hs0
          go_wp2_with fail
          go_roundw
          case rel =>
            refine ⟨m + 1, ?_, by go_num, by omega, HKt⟩
            rw [HSM.out]
            push_cast
            first | rfl | (congr 1; omega)
          case measure => simp [intOf]; omega
        · have hml : m = pn := by omega
          subst hml
          have HTK : Hid (sumR (sp.prd.take m) = sumR sp.prd) := by show _ = _; rw [List.take_of_length_le (Nat.le_of_eq HPN.out)]
          rw [HTK.out] at hs0 ⊢
          obtain ⟨sm, hsm⟩ : ∃ z, sumR sp.prd = z := ⟨_, rfl⟩
          have hbig := HALL.out
          rw [hsm] at hs0 hbig ⊢
          have gs : (sm : Int) ≤ 563200 := by omega
          clear hsm hs0
          go_wp2_with fail
          go_ret
          exact ⟨rfl, gtrans HK1.out (gtrans HKr.out HKt.out)⟩
end Gu
end Ex
end Go.Proofs.YtbnchnlogikecaaGreatDoor
namespace Go.Proofs.YtbnchnlogikecaaGreatDoor
open Go.RowKit
attribute [local go_sem] Oper.semAt_some
set_option linter.unusedVariables false
set_option linter.unusedSimpArgs false
set_option maxRecDepth 100000
set_option maxHeartbeats 8000000
namespace Ex
namespace Gu
open Sh Gs
theorem read_bad {T : ByteArray} {s : RSt} (h : parseG T = .ok s) (hw : (writeM (spv s)).2.1 ≠ 0) : (writeM (spv s)).2.1 = 2 ∧ ((∀ x ∈ (spv s).lex, printE x.2.2.2 = 0) → 65536 < growN (spv s)) := by
  have hf := whole_fin h
  rcases hf.check with ⟨r, hr⟩ | ⟨j, hj, x, hx, hn⟩
  · unfold writeM at hw ⊢
    rw [hr] at hw ⊢
    dsimp only at hw ⊢
    split at hw
    · rename_i hl
      rw [if_pos hl]
      exact ⟨rfl, fun _ => Nat.lt_of_lt_of_le hl (lines_grow (check_good hr).1)⟩
    · exact absurd rfl hw
  · unfold writeM
    rw [hj]
    exact ⟨rfl, fun ha => absurd (ha x hx) hn⟩
theorem empty_rd (w : World) : SpR w (.slice none 0 0) (.slice none 0 0) (.slice none 0 0) { lex := [], nam := [], start := 0, prd := [] } :=
  ⟨⟨none, 0, rfl, Nat.le_refl _, Nat.zero_le _, .inl rfl⟩, ⟨none, 0, rfl, Nat.le_refl _, Nat.zero_le _, .inl rfl⟩, ⟨none, 0, rfl, Nat.le_refl _, Nat.zero_le _, .inl rfl⟩⟩
theorem again_err (T : ByteArray) (w : World) (hT : T.size ≤ 200000000000000) (hP : PowAt w) (f0 f1 : Int) (f2 : ByteArray) (hx : parseG T = .error (f0, f1, f2)) :
    Calls Tryz.prog 5 #[.string T] w fun e w' => e = .returned (.bool true) ∧ Kept w w' := by
  have HHD := hide1 (head_is6 w hP)
  have HPS := hide1 (fun w1 => Parse_rd T w1)
  have HFM := hide1 (fun w1 (hk : Kept w w1) => FormatS_is T w1 (hP.keep hk))
  have hne : f0 ≠ 0 := parseG_bad T _ hx
  have hat := parse_at hx
  have hfm : formM T = (⟨#[]⟩, (f0, f1, f2)) := by unfold formM; rw [hx]
  rw [hx] at HPS
  rw [hfm] at HFM
  unfold fltV at HFM
  dsimp only at HFM hat
  have hn : (f0 != 0) = true := by simpa using hne
  have HSM := hide1 (fun w1 => spSame_is none none none none none none 0 0 0 0 0 0 0 0 0 { lex := [], nam := [], start := 0, prd := [] } w1 (empty_rd w1) (empty_rd w1))
  have hfs := fault_same f0 f1 f2
  obtain ⟨ha0, ha1⟩ := hat
  have gsz : (T.size : Int) ≤ 200000000000000 := by omega
  clear hfm hx hne hP
  go_enter Tryz.func5, Tryz.ntmps5
  go_upto_region 3 with (go_at_call 9; go_must (refine (HHD.out).mono ?_; rintro e w1 ⟨rfl, hk1⟩; have HK1 := hide1 hk1; clear hk1))
  go_wp2_with fail
  go_at_call 10
  refine (HPS.out w1).mono ?_
  rintro e w2 ⟨hk2, rfl⟩
  unfold noV fltV
  have HB2 := hide1 (two_res w2 (.slice none 0 0) (.slice none 0 0) (.int .i64 0) (.slice none 0 0) (.int .i64 f0) (.int .i64 f1) (.string f2))
  have HK2 := hide1 (((gtrans HK1.out hk2).alloc #[.slice none 0 0, .slice none 0 0, .int .i64 0, .slice none 0 0] 27).alloc #[.int .i64 f0, .int .i64 f1, .string f2] 30)
  clear hk2
  go_upto_region 4 with fail
  obtain ⟨d2, hd2⟩ : ∃ g, w2.heap.size + 1 = g := ⟨_, rfl⟩
  rw [hd2] at HB2 ⊢
  clear hd2
  obtain ⟨d1, hd1⟩ : ∃ g, w2.heap.size = g := ⟨_, rfl⟩
  generalize (w2.alloc (.cells #[.slice none 0 0, .slice none 0 0, .int .i64 0, .slice none 0 0] 27)).alloc (.cells #[.int .i64 f0, .int .i64 f1, .string f2] 30) = W2 at HB2 HK2 ⊢
  rw [hd1] at HB2 ⊢
  clear hd1
  go_upto_region 5 with (go_at_call 15; go_must (refine (HFM.out W2 HK2.out).mono ?_; rintro e w3 ⟨rfl, hk3⟩; have HK3 := hide1 ((gtrans HK2.out hk3).alloc #[.int .i64 f0, .int .i64 f1, .string f2] 30); have HF3 : Hid (FbB (w3.alloc (.cells #[.int .i64 f0, .int .i64 f1, .string f2] 30)) w3.heap.size f0 f1 f2) := heap_alloc_new w3 _; have HB3 := hide1 (ResB.kept HB2.out (gtrans hk3 ((Kept.refl w3).alloc #[.int .i64 f0, .int .i64 f1, .string f2] 30))); clear hk3))
  obtain ⟨d3, hd3⟩ : ∃ g, w3.heap.size = g := ⟨_, rfl⟩
  generalize w3.alloc (.cells #[.int .i64 f0, .int .i64 f1, .string f2] 30) = W3 at HF3 HK3 HB3 ⊢
  rw [hd3] at HF3 ⊢
  clear hd3
  obtain ⟨⟨x0, x1, x2, x3⟩, ⟨b0, b1, b2⟩, -⟩ := HB3.out.facts
  obtain ⟨⟨c0, c1, c2⟩, -⟩ := HF3.out.facts
  have hka : ∀ w', Kept W3 w' → w'.cell? ⟨d2, 1, none⟩ = some (.int .i64 f1) := fun w' hk => grown_cell hk b1
  go_wp2_with (go_at_call 14; refine (HSM.out _).mono ?_; rintro e w4 ⟨rfl, hk4⟩; have HK4 := hide1 (gtrans HK3.out hk4); have e1 := hka _ hk4; clear hk4)
  go_ret
  exact ⟨rfl, HK4.out⟩
theorem again_ok (T : ByteArray) (w : World) (hT : T.size ≤ 200000000000000) (hP : PowAt w) (s : RSt) (hx : parseG T = .ok s) :
    Calls Tryz.prog 5 #[.string T] w fun e w' => e = .returned (.bool true) ∧ Kept w w' := by
  have HHD := hide1 (head_is6 w hP)
  have HPS := hide1 (fun w1 => Parse_rd T w1)
  have HFM := hide1 (fun w1 (hk : Kept w w1) => FormatS_is T w1 (hP.keep hk))
  have hfm : formM T = ((writeM (spv s)).1, ((writeM (spv s)).2.1, 0, ⟨#[]⟩)) := by unfold formM; rw [hx]
  have hf := whole_fin hx
  have hbad := write_bad (sp := spv s)
  have hrb := read_bad hx
  have hall := round_all (sp := spv s)
  rw [hx] at HPS
  rw [hfm] at HFM
  have HGW : Hid (((∀ x ∈ (spv s).lex, printE x.2.2.2 = 0) → 65536 < growN (spv s)) → ∀ la ln lc na nn nc pa pn pc w1, SpR w1 (.slice la ln lc) (.slice na nn nc) (.slice pa pn pc) (spv s) → Kept w w1 → Calls Tryz.prog 16 #[.agg #[.slice la ln lc, .slice na nn nc, .int .i64 s.st, .slice pa pn pc]] w1 fun e w' => e = .returned (.bool true) ∧ Kept w1 w') := fun hg la ln lc na nn nc pa pn pc w1 hr hk => by
    obtain ⟨l1, l2, l3, l4⟩ := hf.len
    have h1 := (slice_n hr.1).1
    have h2 := (slice_n hr.2.1).1
    have h3 := (slice_n hr.2.2).1
    have e1 : (spv s).lex.length = s.lex.length := rfl
    have e2 : (spv s).nam.length = s.nam.length := rfl
    have e3 : (spv s).prd.length ≤ s.prd.length := by show (s.prd.zip s.sds).length ≤ _; rw [List.length_zip]; omega
    exact grows_is la na pa ln lc nn nc pn pc (spv s) w1 hr (hP.keep hk) (by omega) (by omega) (by omega) (fun p hp => by
      have hp2 : p ∈ s.prd.zip s.sds := hp
      exact (hf.rows _ (List.of_mem_zip (a := p.1) (b := p.2) hp2).2).1) (fun x hx => (hf.lnm x hx).2) hg
  have HSA : Hid (∀ la ln lc na nn nc pa pn pc lb ln' lc' nb nn' nc' pb pn' pc' w1, SpR w1 (.slice la ln lc) (.slice na nn nc) (.slice pa pn pc) (spv s) → SpR w1 (.slice lb ln' lc') (.slice nb nn' nc') (.slice pb pn' pc') { spv s with lex := comL (spv s) } → Calls Tryz.prog 14 #[.agg #[.slice la ln lc, .slice na nn nc, .int .i64 s.st, .slice pa pn pc], .agg #[.slice lb ln' lc', .slice nb nn' nc', .int .i64 s.st, .slice pb pn' pc']] w1 fun e w' => e = .returned (.bool true) ∧ Kept w1 w') := fun la ln lc na nn nc pa pn pc lb ln' lc' nb nn' nc' pb pn' pc' w1 hr hr' => by
    have h1 := hr.com
    obtain ⟨a1, _, _⟩ := slice_n h1.1
    obtain ⟨a2, _, _⟩ := slice_n hr'.1
    obtain ⟨b1, _, _⟩ := slice_n h1.2.1
    obtain ⟨b2, _, _⟩ := slice_n hr'.2.1
    obtain ⟨c1, _, _⟩ := slice_n h1.2.2
    obtain ⟨c2, _, _⟩ := slice_n hr'.2.2
    have e1 : ln' = ln := a2.symm.trans a1
    have e2 : nn' = nn := b2.symm.trans b1
    have e3 : pn' = pn := c2.symm.trans c1
    subst e1 e2 e3
    exact spSame_is la na pa lb nb pb _ _ _ _ _ _ _ _ _ { spv s with lex := comL (spv s) } w1 h1 hr'
  obtain ⟨⟨tx, f0, f1, f2⟩, hY⟩ : ∃ Y, writeM (spv s) = Y := ⟨_, rfl⟩
  rw [hY] at HFM hbad hrb hall
  have hP2 : ∀ w1, Kept w w1 → PowAt w1 := fun w1 hk => hP.keep hk
  have hss : (spv s).start = s.st := rfl
  rw [hss] at hall
  unfold fltV at HFM
  dsimp only at HFM hbad hrb hall
  obtain ⟨st, hst⟩ : ∃ st, s.st = st := ⟨_, rfl⟩
  have HST := hide1 hst
  rw [hst] at hall HGW HSA
  have HPW := hide1 hP2
  clear hfm hx hP hf hY hss hst hP2
  go_enter Tryz.func5, Tryz.ntmps5
  go_upto_region 3 with (go_at_call 9; go_must (refine (HHD.out).mono ?_; rintro e w1 ⟨rfl, hk1⟩; have HK1 := hide1 hk1; clear hk1))
  go_wp2_with fail
  go_at_call 10
  refine (HPS.out w1).mono ?_
  rintro e w2 ⟨hk2, xa, xn, xc, xd, xo, xe, xf, xp, xg, rfl, hr2⟩
  unfold okV
  rw [HST.out]
  have HB2 := hide1 (two_res w2 (.slice xa xn xc) (.slice xd xo xe) (.int .i64 st) (.slice xf xp xg) (.int .i64 0) (.int .i64 0) (.string ⟨#[]⟩))
  have HL2 := hide1 (((Kept.refl w2).alloc #[.slice xa xn xc, .slice xd xo xe, .int .i64 st, .slice xf xp xg] 27).alloc #[.int .i64 0, .int .i64 0, .string ⟨#[]⟩] 30)
  have HK2 := hide1 (gtrans HK1.out (gtrans hk2 HL2.out))
  have HR2 := hide1 (hr2.keep HL2.out)
  clear hk2 hr2
  go_upto_region 4 with fail
  obtain ⟨d2, hd2⟩ : ∃ g, w2.heap.size + 1 = g := ⟨_, rfl⟩
  rw [hd2] at HB2 ⊢
  clear hd2
  obtain ⟨d1, hd1⟩ : ∃ g, w2.heap.size = g := ⟨_, rfl⟩
  generalize (w2.alloc (.cells #[.slice xa xn xc, .slice xd xo xe, .int .i64 st, .slice xf xp xg] 27)).alloc (.cells #[.int .i64 0, .int .i64 0, .string ⟨#[]⟩] 30) = W2 at HB2 HK2 HL2 HR2 ⊢
  rw [hd1] at HB2 ⊢
  clear hd1 HL2
  go_upto_region 5 with (go_at_call 15; go_must (refine (HFM.out W2 HK2.out).mono ?_; rintro e w3 ⟨rfl, hk3⟩; have HK3 := hide1 ((gtrans HK2.out hk3).alloc #[.int .i64 f0, .int .i64 0, .string ⟨#[]⟩] 30); have HF3 : Hid (FbB (w3.alloc (.cells #[.int .i64 f0, .int .i64 0, .string ⟨#[]⟩] 30)) w3.heap.size f0 0 ⟨#[]⟩) := heap_alloc_new w3 _; have HB3 := hide1 (ResB.kept HB2.out (gtrans hk3 ((Kept.refl w3).alloc #[.int .i64 f0, .int .i64 0, .string ⟨#[]⟩] 30))); have HR3 := hide1 (HR2.out.keep (gtrans hk3 ((Kept.refl w3).alloc #[.int .i64 f0, .int .i64 0, .string ⟨#[]⟩] 30))); clear hk3))
  obtain ⟨d3, hd3⟩ : ∃ g, w3.heap.size = g := ⟨_, rfl⟩
  generalize w3.alloc (.cells #[.int .i64 f0, .int .i64 0, .string ⟨#[]⟩] 30) = W3 at HF3 HK3 HB3 HR3 ⊢
  rw [hd3] at HF3 ⊢
  clear hd3 HR2 HK2 HB2
  obtain ⟨⟨x0, x1, x2, x3⟩, ⟨b0, b1, b2⟩, -⟩ := HB3.out.facts
  obtain ⟨⟨c0, c1, c2⟩, -⟩ := HF3.out.facts
  by_cases h0 : f0 = 0
  · subst h0
    obtain ⟨s2, hps, hss, hws, hrr⟩ := hall rfl
    have HPQ := hide1 (fun w1 => Parse_rd tx w1)
    have HFQ := hide1 (fun w1 (hk : Kept w w1) => FormatS_is tx w1 (HPW.out w1 hk))
    have hfm2 : formM tx = (tx, (0, 0, ⟨#[]⟩)) := by unfold formM; rw [hps]; dsimp only; rw [hws]
    rw [hps] at HPQ
    rw [hfm2] at HFQ
    unfold fltV at HFQ
    dsimp only at HFQ
    have HRR := hide1 hrr
    have HSS := hide1 hss
    have hfs := fault_same 0 0 ⟨#[]⟩
    clear hps hss hws hrr hall hbad hrb hfm2
    go_upto_region 9 with fail
    clear x0 x1 x2 x3 b0 b1 b2 c0 c1 c2
    go_wp2_with fail
    go_at_call 10
    refine (HPQ.out W3).mono ?_
    rintro e w4 ⟨hk4, ya, yn, yc, yd, yo, ye, yf, yp, yg, rfl, hr4⟩
    unfold okV
    rw [HSS.out]
    have HB4 := hide1 (two_res w4 (.slice ya yn yc) (.slice yd yo ye) (.int .i64 st) (.slice yf yp yg) (.int .i64 0) (.int .i64 0) (.string ⟨#[]⟩))
    have HL4 := hide1 (((Kept.refl w4).alloc #[.slice ya yn yc, .slice yd yo ye, .int .i64 st, .slice yf yp yg] 27).alloc #[.int .i64 0, .int .i64 0, .string ⟨#[]⟩] 30)
    have HK4 := hide1 (gtrans hk4 HL4.out)
    have HR4 := hide1 (hr4.keep HL4.out)
    clear hk4 hr4
    go_upto_region 10 with fail
    obtain ⟨e2, he2⟩ : ∃ g, w4.heap.size + 1 = g := ⟨_, rfl⟩
    rw [he2] at HB4 ⊢
    clear he2
    obtain ⟨e1, he1⟩ : ∃ g, w4.heap.size = g := ⟨_, rfl⟩
    generalize (w4.alloc (.cells #[.slice ya yn yc, .slice yd yo ye, .int .i64 st, .slice yf yp yg] 27)).alloc (.cells #[.int .i64 0, .int .i64 0, .string ⟨#[]⟩] 30) = W4 at HB4 HK4 HL4 HR4 ⊢
    rw [he1] at HB4 ⊢
    clear he1 HL4
    go_upto_region 11 with (go_at_call 15; go_must (refine (HFQ.out W4 (gtrans HK3.out HK4.out)).mono ?_; rintro e w5 ⟨rfl, hk5⟩; have HL5 := hide1 (gtrans hk5 ((Kept.refl w5).alloc #[.int .i64 0, .int .i64 0, .string ⟨#[]⟩] 30)); have HF5 : Hid (FbB (w5.alloc (.cells #[.int .i64 0, .int .i64 0, .string ⟨#[]⟩] 30)) w5.heap.size 0 0 ⟨#[]⟩) := heap_alloc_new w5 _; clear hk5))
    obtain ⟨e3, he3⟩ : ∃ g, w5.heap.size = g := ⟨_, rfl⟩
    generalize w5.alloc (.cells #[.int .i64 0, .int .i64 0, .string ⟨#[]⟩] 30) = W5 at HF5 HL5 ⊢
    rw [he3] at HF5 ⊢
    clear he3
    have HB5 := hide1 (ResB.kept HB4.out HL5.out)
    have HB6 := hide1 (ResB.kept HB3.out (gtrans HK4.out HL5.out))
    have HR5 := hide1 (HR3.out.keep (gtrans HK4.out HL5.out))
    have HR6 := hide1 (HRR.out _ _ _ _ (HR4.out.keep HL5.out))
    have HK5 := hide1 (gtrans HK3.out (gtrans HK4.out HL5.out))
    obtain ⟨⟨x0, x1, x2, x3⟩, -, -⟩ := HB6.out.facts
    obtain ⟨⟨y0, y1, y2, y3⟩, ⟨z0, z1, z2⟩, -⟩ := HB5.out.facts
    obtain ⟨⟨c0, c1, c2⟩, -⟩ := HF5.out.facts
    go_wp2_with (go_at_call 14; refine (HSA.out _ _ _ _ _ _ _ _ _ _ _ _ _ _ _ _ _ _ _ HR5.out HR6.out).mono ?_; rintro e w6 ⟨rfl, hk6⟩; have HK6 := hide1 (gtrans HK5.out hk6); clear hk6)
    go_ret
    exact ⟨rfl, HK6.out⟩
  · obtain ⟨h2, hgr⟩ := hrb h0
    have e := hbad h0
    subst e h2
    have hfs := fault_same 2 0 ⟨#[]⟩
    have HGX := hide1 (HGW.out hgr)
    clear hall hbad hrb hgr h0
    go_wp2_with (go_at_call 16; refine (HGX.out _ _ _ _ _ _ _ _ _ _ HR3.out HK3.out).mono ?_; rintro e w6 ⟨rfl, hk6⟩; have HK6 := hide1 (gtrans HK3.out hk6); clear hk6)
    go_ret
    exact ⟨rfl, HK6.out⟩
theorem lawAgain_is (T : ByteArray) (w : World) (hT : T.size ≤ 200000000000000) (hP : PowAt w) :
    Calls Tryz.prog 5 #[.string T] w fun e w' => e = .returned (.bool true) ∧ Kept w w' := by
  cases hx : parseG T with
  | error f => exact again_err T w hT hP f.1 f.2.1 f.2.2 hx
  | ok s => exact again_ok T w hT hP s hx
end Gu
end Ex
end Go.Proofs.YtbnchnlogikecaaGreatDoor
namespace Go.Proofs.YtbnchnlogikecaaGreatDoor
open Go.ChangeShapes Go.WideShapes Go.ChangeAt Go.RowKit
set_option linter.unusedVariables false
set_option maxRecDepth 100000
namespace Ex
namespace Gu
open Sh Gs
theorem walkSpecAgain (T0 : ByteArray) (w : World) (hT0 : T0.size ≤ 200000000000000) (hT : ∀ j, j < 64 → w.cell? ⟨3, j, none⟩ = some (.int .u8 (Lib.deBruijn64tab.getD j 0 : Nat))) (hP : w.cell? ⟨1, 2, none⟩ = some (.int .u64 100) ∧ w.cell? ⟨1, 3, none⟩ = some (.int .u64 1000)) :
    Calls Tryz.prog 5 #[.string T0] w fun e w' => e = .returned (.bool true) ∧ Below w.heap.size w w' :=
  (lawAgain_is T0 w hT0 hP).mono fun _ _ h => ⟨h.1, h.2.below⟩
theorem liftedSpecAgain (os : Os) (started : os.Started) (H : Type) (enc : TypeId × Value → H) :
    ReturnsInHanded {} Tryz.checked os 5 .any (fun w args => (Rows.specAgainSpec.pre enc Tryz.prog Tryz.f5 [] false w args ∧ laidMetH Tryz.prog Rows.specAgainRow.laid w) ∧ sizedMet enc Tryz.prog Tryz.f5 (OpenSpec.ofChange Rows.specAgainSpec) false w args)
      (Rows.specAgainSpec.post enc Tryz.prog Tryz.f5 false true false false) := by
  refine returnsInHanded_of_change_and (C := Tryz.checked) (X := fun w _ => laidMetH Tryz.prog Rows.specAgainRow.laid w) (fun _ _ _ hh h => h.of_heap hh) own started (by kernel_rfl) Tryz.func5
    (ChangeSpec.witness_shaped (enc := enc) (C := Tryz.checked) (os := os) (X := fun w _ => laidMetH Tryz.prog Rows.specAgainRow.laid w) false (World.doorLaid Tryz.prog 4000 os) #[.string ByteArray.empty] 8 rfl (World.shaped_of_RefB (by kernel_rfl) (by kernel_rfl)) (by kernel_rfl) (by kernel_rfl) (by kernel_rfl) (show _ from door_met os _)) ?_
  intro W base args ds gs before hval0 hW _ hsz hL _
  have hval : ∀ (j : Nat) t v, Tryz.f5.params[j]? = some t → args[j]? = some v → Value.okWide Tryz.prog W .any base t v := hval0
  have hW' := hW
  obtain ⟨p, q, hA0, hV, rfl, hfz, hnd⟩ := hW
  have hA : DataW.TrodAll enc Tryz.prog W 0 (fun _ => true) true Tryz.f5.params.toList args.toList ds p := hA0
  rw [Tryz.params5] at hA hval
  obtain ⟨v0, vs0, d0, ds0, p0, q0, hargs, rfl, rfl, h0, r0⟩ := trodAll_cons hA
  obtain ⟨rfl, rfl, rfl⟩ := trodAll_nil r0
  obtain rfl : args = #[v0] := by cases args; simp_all
  obtain ⟨rfl, rfl⟩ := trodVars_none hV
  have k0 := h0
  have lt0 : ∀ x ∈ p0, x.block < W.heap.size := by obtain ⟨m, hm⟩ := k0; exact DataW.trod_lt m _ _ _ hm
  have wt0 : ∀ n ∈ d0.weights Tryz.prog 9, n ≤ reachBytes := fun n hn => by
    have := List.all_eq_true.1 hsz n (DataW.weights_mem_each (j := 0) (by rfl) (by rfl) n hn)
    simpa using this
  obtain ⟨T0, rfl⟩ := okWide_string Tryz.underlying9 (hval 0 9 v0 rfl rfl)
  have hTs0 : T0.size ≤ 200000000000000 := by
    obtain ⟨fuel, hf⟩ := k0
    obtain ⟨s, g1, g2, _⟩ := DataW.trod_string Tryz.underlying9 hf
    have g3 : s = T0 := by simpa [Value.cells] using g1.symm
    subst g3
    simp only [Prod.mk.injEq] at g2
    have := wt0 s.data.toList.length (by rw [g2.1]; simp [DataW.weights])
    have hs : s.data.toList.length = s.size := by rw [Array.length_toList]; rfl
    rw [hs] at this
    unfold reachBytes at this
    omega
  clear hA0 hval0
  refine Calls.mono (R := fun e w' => e = .returned (.bool true) ∧ Below W.heap.size W w') (by exact walkSpecAgain _ W hTs0 (of_laid (show laidMetH Tryz.prog Rows.specCutRow.laid W from hL)) (pow_laid (show laidMetH Tryz.prog Rows.specCutRow.laid W from hL))) fun e W' ⟨he, bel⟩ => ?_
  subst he
  exact ⟨_, rfl, _, _, _, [], _, [], hW', trodAll_mk1 (shut_bool Tryz.underlying4 _), (trodAll_cons_mk (Below.trod laidOut (by kernel_rfl) (of_decide_eq_true (by kernel_rfl)) k0 bel lt0) trodAll_mk0), rfl, bel.frame _, fun h => by cases h⟩
theorem overSpecAgain : Rows.specAgainRow.holds Tryz.pinned (OpenSpec.ofChange Rows.specAgainSpec) :=
  OpenClaim.holds_of_wide 5 Tryz.f5 rfl rfl rfl rfl rfl rfl rfl ⟨rfl, rfl, rfl, rfl, rfl⟩ rfl rfl rfl rfl rfl (by kernel_rfl) Tryz.func5 (by kernel_rfl)
    (of_decide_eq_true (by kernel_rfl)) (by unfold Func.isWrapper; first | (rw [if_pos (by decide +kernel)]; kernel_rfl) | (rw [if_neg (by decide +kernel)]; exact ⟨rfl, rfl⟩))
    (fun os started H enc _ => liftedSpecAgain os started H enc)
end Gu
end Ex
theorem specAgain_card_holds : Rows.SpecAgainCardSaid :=
  Claim7.holds_tied_plain_at .later [] [.data, .data, .data] true Rows.specAgainCard.stood.harness true
    Ex.Gu.overSpecAgain (fun _ h => by cases h) (by kernel_rfl) (fun _ h => by cases h) specAgain_row_tie rfl ⟨rfl, rfl⟩ (by kernel_rfl) rfl
    (fun f fn hf hfn => by
      obtain rfl : f = 5 := Option.some.inj (hf.symm.trans (by kernel_rfl))
      obtain rfl : fn = Tryz.f5 := (Option.some.inj (Tryz.func5.symm.trans hfn)).symm
      exact ⟨by kernel_rfl, fun j t ht => by
        rw [Tryz.params5] at ht
        have hm : t ∈ [9] := by simpa using Array.mem_of_getElem? ht
        have hall : ([9].all fun u => !Tryz.prog.wantsStandIn u) = true := by kernel_rfl
        exact (show Tryz.prog.wantsStandIn t = false by simpa using List.all_eq_true.1 hall t hm)⟩)
    (by kernel_rfl)
#print axioms specAgain_card_holds
end Go.Proofs.YtbnchnlogikecaaGreatDoor
