import Derived.Test.YtbnchnlogikecaaGreatDoorPSpSz2
import Derived.Test.YtbnchnlogikecaaGreatDoorPExKl
import Derived.Test.YtbnchnlogikecaaGreatDoorPGuE
import Derived.Deep.RegionHeld3
import Derived.Deep.DeepMust
import Derived.BigQuiet
namespace Go.Proofs.YtbnchnlogikecaaGreatDoor
open Go.RowKit
attribute [local go_sem] Oper.semAt_some
set_option linter.unusedVariables false
set_option linter.unusedSimpArgs false
set_option maxRecDepth 100000
set_option maxHeartbeats 8000000
namespace Ex
namespace Gu
open Sh Gs
theorem SpB.set0 {w : World} {g : Nat} {x0 x1 x2 x3 : Value} (h : SpB w g x0 x1 x2 x3) (y : Value) : SpB (w.setCell ⟨g, 0, none⟩ y) g y x1 x2 x3 := by unfold SpB; rw [heap_setb h]; rfl
theorem SpB.set1 {w : World} {g : Nat} {x0 x1 x2 x3 : Value} (h : SpB w g x0 x1 x2 x3) (y : Value) : SpB (w.setCell ⟨g, 1, none⟩ y) g x0 y x2 x3 := by unfold SpB; rw [heap_setb h]; rfl
theorem SpB.set3 {w : World} {g : Nat} {x0 x1 x2 x3 : Value} (h : SpB w g x0 x1 x2 x3) (y : Value) : SpB (w.setCell ⟨g, 3, none⟩ y) g x0 x1 x2 y := by unfold SpB; rw [heap_setb h]; rfl
theorem SpB.set4 {w : World} {g : Nat} {x0 x1 x2 x3 : Value} (h : SpB w g x0 x1 x2 x3) (y0 y1 y2 y3 : Value) : SpB ((((w.setCell ⟨g, 0, none⟩ y0).setCell ⟨g, 1, none⟩ y1).setCell ⟨g, 2, none⟩ y2).setCell ⟨g, 3, none⟩ y3) g y0 y1 y2 y3 := by unfold SpB; rw [heap_setb (heap_setb (heap_setb (heap_setb h)))]; rfl
theorem PdB.set1 {w : World} {g : Nat} {l : Int} {v : Value} (h : PdB w g l v) (y : Value) : PdB (w.setCell ⟨g, 1, none⟩ y) g l y := by unfold PdB; rw [heap_setb h]; rfl
def set6x (w : World) (g : Nat) (k f t m x u : Value) : World := (((((w.setCell ⟨g, 2, none⟩ k).setCell ⟨g, 3, none⟩ f).setCell ⟨g, 4, none⟩ t).setCell ⟨g, 5, none⟩ m).setCell ⟨g, 6, none⟩ x).setCell ⟨g, 7, none⟩ u
theorem LxB.put {w : World} {g : Nat} {nm : ByteArray} {tr : Bool} {a b c d e : Int} {v : Value} (h : LxB w g nm tr a b c d e v) (k f t m x : Int) (u : Value) : LxB (set6x w g (.int .i64 k) (.int .i64 f) (.int .i64 t) (.int .i64 m) (.int .i64 x) u) g nm tr k f t m x u := by
  unfold LxB set6x
  rw [heap_setb (heap_setb (heap_setb (heap_setb (heap_setb (heap_setb h)))))]
  rfl
theorem set6x_kept {w0 w : World} {g : Nat} {k f t m x u : Value} (h : Kept w0 w) (hg : w0.heap.size ≤ g) : Kept w0 (set6x w g k f t m x u) := keep_set (keep_set (keep_set (keep_set (keep_set (keep_set h hg) hg) hg) hg) hg) hg
theorem set6x_holds {S : Nat → Prop} {w : World} {g : Nat} {k f t m x u : Value} (hS : ¬ S g) : Holds S w (set6x w g k f t m x u) := fun b o v hb hc => by
  have hne : b ≠ g := fun e => hS (e ▸ hb)
  unfold set6x
  rw [set_other (.inl hne), set_other (.inl hne), set_other (.inl hne), set_other (.inl hne), set_other (.inl hne), set_other (.inl hne)]
  exact hc
theorem set6x_size (w : World) (g : Nat) (k f t m x u : Value) : (set6x w g k f t m x u).heap.size = w.heap.size := by simp [set6x, World.setCell]
theorem spec_ret {fn : Func} {p : Tmp} (h : fn.results = #[.cell p 27]) (tmps : Array Value) (w : World) (g : Nat) (x0 x1 x2 x3 : Value)
    (hp : tmps.getD p undef = .pointer (some ⟨g, 0, none⟩)) (hg : SpB w g x0 x1 x2 x3) :
    (results fn tmps).run Tryz.prog w = .ok (.agg #[x0, x1, x2, x3]) w := by
  have hp2 : tmps[p]?.getD undef = .pointer (some ⟨g, 0, none⟩) := by simpa using hp
  have e1 := run_loadVar_row (P := Tryz.prog) w g 27 27 _ (0, 0) _ hg Tryz.underlying27 rfl (by kernel_rfl)
  simp [results, h, hp2, asAddr, e1]
theorem own_nil0 (d : Nat) : (val (none, 0, 0)).ownBlock ≠ some d := fun e => by cases e
def Lp1 (w : World) (g : Nat) (sp : SpV) (va vn vp : Value) (st : Int) (j : Nat) (xL : SlV) (wr : World) : Prop :=
  Kept w wr ∧ (∃ its, TwJ w.heap.size (g + 3) wr xL (none, 0, 0) (none, 0, 0) its [] (sp.lex.take j) [] []) ∧ SpB wr g va vn (.int .i64 st) vp ∧ SpB wr (g + 1) (.slice none 0 0) (.slice none 0 0) (.int .i64 0) (.slice none 0 0) ∧ SpB wr (g + 2) (val xL) (.slice none 0 0) (.int .i64 st) (.slice none 0 0) ∧ g + 3 ≤ wr.heap.size
def Lp2 (w : World) (g : Nat) (sp : SpV) (va vn vp : Value) (st : Int) (xL xN : SlV) (its : List Gs.LexM) (j : Nat) (xP : SlV) (wr : World) : Prop :=
  Kept w wr ∧ (∃ qs, TwJ w.heap.size (g + 3) wr xL xN xP its qs sp.lex sp.nam (sp.prd.take j)) ∧ SpB wr g va vn (.int .i64 st) vp ∧ SpB wr (g + 1) (.slice none 0 0) (.slice none 0 0) (.int .i64 0) (.slice none 0 0) ∧ SpB wr (g + 2) (val xL) (val xN) (.int .i64 st) (val xP) ∧ g + 3 ≤ wr.heap.size
def TwR (n0 : Nat) (st : Int) (sp : SpV) (e : Ending) (w' : World) : Prop := ∃ xL xN xP : SlV, e = .returned (.agg #[val xL, val xN, .int .i64 st, val xP]) ∧ TwO n0 w' xL xN xP sp
theorem take_snoc {α : Type} {l : List α} {j : Nat} {x : α} (h : l[j]? = some x) : l.take (j + 1) = l.take j ++ [x] := by
  rw [List.take_add_one, h]
  rfl
theorem spTwin_is (la na pa : Option Addr) (ln lc nn nc pn pc : Nat) (sp : SpV) (w : World) (hz : SzV sp) (hA : SpR w (.slice la ln lc) (.slice na nn nc) (.slice pa pn pc) sp) :
    Calls Tryz.prog 12 #[.agg #[.slice la ln lc, .slice na nn nc, .int .i64 sp.start, .slice pa pn pc]] w fun e w' => TwR w.heap.size sp.start sp e w' ∧ Kept w w' := by
  obtain ⟨hl1, hl2, hl3⟩ := slice_n hA.1
  obtain ⟨hn1, hn2, hn3⟩ := slice_n hA.2.1
  obtain ⟨hp1, hp2, hp3⟩ := slice_n hA.2.2
  have HA := hide1 hA
  have HLN := hide1 hl1
  have HNN := hide1 hn1
  have HPN := hide1 hp1
  obtain ⟨z1, z2, z3, z4⟩ := hz
  rw [hl1] at z1
  rw [hn1] at z2
  rw [hp1] at z3
  have HZ := hide1 (show ln * 88 ≤ 140737488351232 ∧ nn * 16 ≤ 140737488351232 ∧ pn * 32 ≤ 140737488351232 from ⟨z1, z2, z3⟩)
  have HZ4 := hide1 z4
  obtain ⟨st, hst⟩ : ∃ st, sp.start = st := ⟨_, rfl⟩
  rw [hst]
  have g1 : (ln : Int) ≤ 17592186044416 := by omega
  have g2 : (ln : Int) ≤ (lc : Int) := by omega
  have g4 : (nn : Int) ≤ 17592186044416 := by omega
  have g5 : (pn : Int) ≤ 17592186044416 := by omega
  have g6 : (pn : Int) ≤ (pc : Int) := by omega
  clear hA hl1 hl2 hl3 hn1 hn2 hn3 hp1 hp2 hp3 hst z1 z2 z3 z4
  go_enter Tryz.func12, Tryz.ntmps12
  go_wp2_with fail
  obtain ⟨W, hW⟩ : ∃ W, ((w.alloc (.cells #[.slice la ln lc, .slice na nn nc, .int .i64 st, .slice pa pn pc] 27)).alloc (.cells #[.slice none 0 0, .slice none 0 0, .int .i64 0, .slice none 0 0] 27)).alloc (.cells #[.slice none 0 0, .slice none 0 0, .int .i64 st, .slice none 0 0] 27) = W := ⟨_, rfl⟩
  rw [hW]
  have HWK : Hid (Kept w W) := by rw [← hW]; exact (((Kept.refl w).alloc _ _).alloc _ _).alloc _ _
  have HS : Hid (W.heap.size = w.heap.size + 3) := by rw [← hW]; show _ = _; simp
  have HB0 : Hid (SpB W w.heap.size (.slice la ln lc) (.slice na nn nc) (.int .i64 st) (.slice pa pn pc)) := by rw [← hW]; exact (SpB.new w _ _ _ _).keep (((Kept.refl _).alloc _ _).alloc _ _)
  have HB1 : Hid (SpB W (w.heap.size + 1) (.slice none 0 0) (.slice none 0 0) (.int .i64 0) (.slice none 0 0)) := by rw [← hW]; exact (SpB.next w _ _ _ _ _).keep ((Kept.refl _).alloc _ _)
  have HB2 : Hid (SpB W (w.heap.size + 2) (.slice none 0 0) (.slice none 0 0) (.int .i64 st) (.slice none 0 0)) := by
    have h := SpB.next (w.alloc (.cells #[.slice la ln lc, .slice na nn nc, .int .i64 st, .slice pa pn pc] 27)) (.cells #[.slice none 0 0, .slice none 0 0, .int .i64 0, .slice none 0 0] 27) (.slice none 0 0) (.slice none 0 0) (.int .i64 st) (.slice none 0 0)
    rw [World.size_alloc, hW] at h
    exact h
  clear hW
  obtain ⟨g, hg⟩ : ∃ g, w.heap.size = g := ⟨_, rfl⟩
  rw [hg] at HS HB0 HB1 HB2 ⊢
  have HG := hide1 hg
  clear hg
  go_loopw [4] (fun i wr => ∃ (j : Nat) (xa : Option Addr) (xc : Nat), i = .int .i64 (j : Int) ∧ j ≤ ln ∧ Lp1 w g sp (.slice la ln lc) (.slice na nn nc) (.slice pa pn pc) st j (xa, j, xc) wr) (fun i _ => ln - (intOf i).toNat)
  case atStart => exact ⟨0, none, 0, rfl, Nat.zero_le _, HWK.out, ⟨[], TwJ.nil _ _ _⟩, HB0.out, HB1.out, HB2.out, Nat.le_of_eq HS.out.symm⟩
  case round =>
    obtain ⟨j, xa, xc, rfl, hj, hLp⟩ := hrel
    obtain ⟨hkw, ⟨its, htw⟩, hb0, hb1, hb2, hgs⟩ := hLp
    have HKW := hide1 hkw
    have HT := hide1 htw
    have HIL := hide1 (show its.length = j from lo_lens htw.lex)
    have HBA := hide1 hb0
    have HBZ := hide1 hb1
    have HO := hide1 hb2
    have HGS := hide1 hgs
    clear hkw htw hb0 hb1 hb2 hgs
    obtain ⟨⟨a0, a1, a2, a3⟩, -⟩ := HBA.out.facts
    by_cases hlt : (j : Int) < (ln : Int)
    · obtain ⟨x, hx⟩ : ∃ x, sp.lex[j]? = some x := ⟨_, List.getElem?_eq_getElem (by have := HLN.out; omega)⟩
      obtain ⟨cb, o, ka, kn, kc, ea, ⟨q0, q1, q2, q3, q4, q5, q6, q7⟩, hka⟩ := lex_el (HA.out.keep HKW.out).1 hx
      subst ea
      obtain ⟨nm, tr, n, p⟩ := x
      dsimp only at q0 q1 q2 q3 q4 q5 q6 q7 hka
      have HTK := hide1 (take_snoc hx)
      have HKA0 := hide1 (show KidsAt (fun d => d < w.heap.size) w n (kids p) (.slice ka kn kc) from by
        obtain ⟨cb2, o2, ka2, kn2, kc2, ea2, ⟨_, _, _, _, _, _, _, r7⟩, hka2⟩ := lex_el HA.out.1 hx
        have e2 : cb2 = cb ∧ o2 = o := by simp only [Option.some.injEq, Addr.mk.injEq] at ea2; exact ⟨ea2.1.symm, ea2.2.1.symm⟩
        obtain ⟨rfl, rfl⟩ := e2
        have r8 := grown_cell HKW.out r7
        rw [q7] at r8
        injection r8 with r8
        injection r8 with r8 r9 r10
        subst r8 r9 r10
        exact hka2)
      obtain ⟨kp, hkp⟩ : ∃ z, kind p = z := ⟨_, rfl⟩
      obtain ⟨fp, hfp⟩ : ∃ z, from_ p = z := ⟨_, rfl⟩
      obtain ⟨tp, htp⟩ : ∃ z, to_ p = z := ⟨_, rfl⟩
      obtain ⟨mp, hmp⟩ : ∃ z, min_ p = z := ⟨_, rfl⟩
      obtain ⟨xp, hxp⟩ : ∃ z, max_ p = z := ⟨_, rfl⟩
      obtain ⟨sb, hsb⟩ : ∃ z, smallB p = z := ⟨_, rfl⟩
      have HPE : Hid (kind p = kp ∧ from_ p = fp ∧ to_ p = tp ∧ min_ p = mp ∧ max_ p = xp) := ⟨hkp, hfp, htp, hmp, hxp⟩
      have HSM : Hid (∀ w1, Kept w w1 → Calls Tryz.prog 31 #[.agg #[.int .i64 kp, .int .i64 fp, .int .i64 tp, .int .i64 mp, .int .i64 xp, .slice ka kn kc]] w1 fun e w' => e = .returned (.bool sb) ∧ Kept w1 w') := fun w1 hk => by
        have := small_is _ n p _ w1 (HKA0.out.kept hk)
        rw [valOf_eq, hkp, hfp, htp, hmp, hxp, hsb] at this
        exact this
      have HCP : Hid (sb = true → ∀ w1, Kept w w1 → Calls Tryz.prog 32 #[.agg #[.int .i64 kp, .int .i64 fp, .int .i64 tp, .int .i64 mp, .int .i64 xp, .slice ka kn kc]] w1 fun e w' => Hid (∃ v2, e = .returned (.agg #[.int .i64 kp, .int .i64 fp, .int .i64 tp, .int .i64 mp, .int .i64 xp, v2]) ∧ KidsAt (fun d => w1.heap.size ≤ d) w' n (kids p) v2) ∧ Kept w1 w') := fun hs w1 hk => by
        have := copied_is _ n p _ w1 (HKA0.out.kept hk) (small_size (hsb.trans hs)).1
        rw [valOf_eq] at this
        simp only [valOf_eq] at this
        rw [hkp, hfp, htp, hmp, hxp] at this
        exact this
      rw [hkp] at q2
      rw [hfp] at q3
      rw [htp] at q4
      rw [hmp] at q5
      rw [hxp] at q6
      clear hx hka hkp hfp htp hmp hxp hsb
      go_upto_region 6 with fail
      have HKX : Hid (Kept wr (wr.alloc (.cells #[.string nm, .bool tr, .int .i64 kp, .int .i64 fp, .int .i64 tp, .int .i64 mp, .int .i64 xp, .slice ka kn kc] 72))) := (Kept.refl wr).alloc _ _
      have HX1 := hide1 (LxB.new wr nm tr kp fp tp mp xp (.slice ka kn kc))
      obtain ⟨wx, hwx⟩ : ∃ wx, wr.alloc (.cells #[.string nm, .bool tr, .int .i64 kp, .int .i64 fp, .int .i64 tp, .int .i64 mp, .int .i64 xp, .slice ka kn kc] 72) = wx := ⟨_, rfl⟩
      rw [hwx] at HKX HX1 ⊢
      obtain ⟨gx, hgx⟩ : ∃ g, wr.heap.size = g := ⟨_, rfl⟩
      have HGX := hide1 hgx
      rw [hgx] at HX1 ⊢
      clear hwx hgx q0 q1 q2 q3 q4 q5 q6 q7 a0 a1 a2 a3
      obtain ⟨⟨x0, x1, x2, x3, x4, x5, x6, x7⟩, -⟩ := HX1.out.facts
      cases sb with
      | true =>
        go_upto_region 7 with (go_at_call 31; refine (HSM.out _ (gtrans HKW.out HKX.out)).mono ?_; rintro e w6 ⟨rfl, hk6⟩; have HK6 := hide1 hk6; clear hk6)
        clear x0 x1 x2 x3 x4 x5 x6 x7
        have HX6 := hide1 (HX1.out.keep HK6.out)
        obtain ⟨⟨x0, x1, x2, x3, x4, x5, x6, x7⟩, -⟩ := HX6.out.facts
        go_upto_region 8 with (go_at_call 32; refine (HCP.out (by first | trivial | rfl) _ (gtrans HKW.out (gtrans HKX.out HK6.out))).mono ?_; rintro e w7 ⟨h7, hk7⟩; obtain ⟨v7, rfl, hm7⟩ := h7.out; obtain ⟨a8, c8, e7⟩ := hm7.form; subst e7; have HM7 := hide1 (KidsAt.tight _ _ _ hm7); have HK7 := hide1 hk7; have HX7 := hide1 (HX6.out.keep hk7); obtain ⟨⟨y0, y1, y2, y3, y4, y5, y6, y7⟩, yf, yl⟩ := HX7.out.facts; have f2 := yf 2; have f3 := yf 3; have f4 := yf 4; have f5 := yf 5; have f6 := yf 6; have f7 := yf 7; clear h7 hm7 hk7 yf)
        clear x0 x1 x2 x3 x4 x5 x6 x7 y0 y1 y2 y3 y4 y5 y6 y7 yl f2 f3 f4 f5 f6 f7
        obtain ⟨n8, hn8⟩ : ∃ z, (kids p).length = z := ⟨_, rfl⟩
        rw [hn8] at HM7 ⊢
        clear hn8
        have HW7 : Hid (Kept wr w7) := gtrans HKX.out (gtrans HK6.out HK7.out)
        obtain ⟨W8, hW8⟩ : ∃ W8, set6x w7 gx (.int .i64 kp) (.int .i64 fp) (.int .i64 tp) (.int .i64 mp) (.int .i64 xp) (.slice a8 n8 c8) = W8 := ⟨_, rfl⟩
        have HW8 : Hid (Kept wr W8) := by rw [← hW8]; exact set6x_kept HW7.out (Nat.le_of_eq HGX.out)
        have HX8 : Hid (LxB W8 gx nm tr kp fp tp mp xp (.slice a8 n8 c8)) := by rw [← hW8]; exact HX7.out.put kp fp tp mp xp (.slice a8 n8 c8)
        have HK8 : Hid (KidsAt (FarS w.heap.size (g + 3) W8 (xa, j, xc) (none, 0, 0) (none, 0, 0)) W8 n (kids p) (.slice a8 n8 c8)) := by
          have hsz : W8.heap.size = w7.heap.size := by rw [← hW8]; exact set6x_size _ _ _ _ _ _ _ _
          have h1 := HX6.out.facts.2.2
          have h2 := (gtrans HKX.out HK6.out).size
          have h3 := HGS.out
          have h4 := HT.out.lex
          rw [← hW8]
          refine KidsAt.mono (set6x_holds (fun hd => by have := hd.1; omega)) (fun d hd => ⟨.inr (by have := hd.1; omega), by rw [set6x_size]; exact hd.2, fun e => by have h5 := (h4.lt' d e).2; have := hd.1; omega, own_nil0 d, own_nil0 d⟩) _ _ _ HM7.out
        unfold set6x at hW8
        rw [hW8]
        clear hW8
        have HC8 := hide1 (HO.out.keep HW8.out)
        obtain ⟨⟨x0, x1, x2, x3, x4, x5, x6, x7⟩, -⟩ := HX8.out.facts
        have o0 := HC8.out.facts.1.1
        go_wp2_with (at_builtin
                     refine wpl_lo (E := lexE) rfl _ _ rfl (g + 3) (.slice xa j xc) its j HIL.out (by rfl) (HT.out.lex.keep (gtrans HW8.out ((Kept.refl W8).alloc _ _))) W8.heap.size (nm, tr, kp, fp, tp, mp, xp, (a8, n8, c8)) (by rfl) (heap_alloc_new W8 _) (by show (j + 1) * 88 ≤ 140737488355328; have := HZ.out.1; omega) (by unfold maxLen; have := HZ.out.1; omega) (by have h1 := HGS.out; have h2 := HW8.out.size; rw [World.size_alloc]; omega) ?_
                     intro g9 c9 w9 ho9 hg9 hor9 hl9
                     have HO9 := hide1 ho9
                     have HG9 := hide1 hg9
                     have HR9 := hide1 hor9
                     have HC9 := hide1 (show SpB w9 (g + 2) (.slice xa j xc) (.slice none 0 0) (.int .i64 st) (.slice none 0 0) from (box_gr (HT.out.lex.keep (gtrans HW8.out ((Kept.refl W8).alloc _ _))) hg9 (by omega) (by have h1 := HGS.out; have h2 := HW8.out.size; rw [World.size_alloc]; omega)).trans ((heap_alloc_old W8 _ (by have h1 := HGS.out; have h2 := HW8.out.size; omega)).trans HC8.out))
                     obtain ⟨⟨d0, d1, d2, d3⟩, df, dl⟩ := HC9.out.facts
                     have d4 := df 0
                     clear ho9 hg9 hor9 hl9 df)
        clear d0 d1 d2 d3 d4 dl x0 x1 x2 x3 x4 x5 x6 x7 o0
        have HWA : Hid (Kept wr (W8.alloc (.cells (lexE.enc (nm, tr, kp, fp, tp, mp, xp, (a8, n8, c8))).toArray 72))) := gtrans HW8.out ((Kept.refl W8).alloc _ _)
        have HT9 : Hid (TwJ w.heap.size (g + 3) w9 (some ⟨g9, 0, none⟩, j + 1, c9) (none, 0, 0) (none, 0, 0) (its ++ [(nm, tr, kind p, from_ p, to_ p, min_ p, max_ p, (a8, n8, c8))]) [] (sp.lex.take j ++ [(nm, tr, ⟨n, p⟩)]) [] []) := by
          have hlo := HO9.out
          obtain ⟨e1, e2, e3, e4, e5⟩ := HPE.out
          refine TwJ.addL (x := (nm, tr, ⟨n, p⟩)) (sv := (a8, n8, c8)) (HT.out.keep HWA.out) ?_ (by rw [e1, e2, e3, e4, e5]; exact hlo) HG9.out HR9.out
          exact KidsAt.mono (((Kept.refl W8).alloc _ _).holds _) (fun d hd => ⟨hd.1, by rw [World.size_alloc]; have := hd.2.1; omega, hd.2.2⟩) _ _ _ HK8.out
        have HB9 : Hid (SpB w9 g (.slice (some ⟨cb, o, none⟩) ln lc) (.slice na nn nc) (.int .i64 st) (.slice pa pn pc)) := (box_gr (HT.out.lex.keep HWA.out) HG9.out (by omega) (by have h1 := HGS.out; have h2 := HW8.out.size; rw [World.size_alloc]; omega)).trans (HBA.out.keep HWA.out)
        have HZ9 : Hid (SpB w9 (g + 1) (.slice none 0 0) (.slice none 0 0) (.int .i64 0) (.slice none 0 0)) := (box_gr (HT.out.lex.keep HWA.out) HG9.out (by omega) (by have h1 := HGS.out; have h2 := HW8.out.size; rw [World.size_alloc]; omega)).trans (HBZ.out.keep HWA.out)
        have HW9 : Hid (Kept w w9) := kept_grB (gtrans HKW.out HWA.out) (by have := HG.out; omega) (HT.out.lex.keep HWA.out) HG9.out
        have HS9 : Hid (g + 3 ≤ w9.heap.size) := by
          have h1 := HGS.out
          have h2 := HWA.out.size
          have h3 := HG9.out.size
          have h4 : wr.heap.size ≤ w9.heap.size := Nat.le_trans h2 h3
          show _ ≤ _
          omega
        go_roundw
        case rel =>
          refine ⟨j + 1, some ⟨g9, 0, none⟩, c9, by go_num, by omega, keep_set HW9.out (by have := HG.out; omega), ⟨_, by rw [HTK.out]; exact HT9.out.set (by have := HG.out; omega) (by omega)⟩, ?_, ?_, ?_, ?_⟩
          · exact (Below.heap_setCell w9 _ _ _ (by show g ≠ g + 2; omega)).trans HB9.out
          · exact (Below.heap_setCell w9 _ _ _ (by show g + 1 ≠ g + 2; omega)).trans HZ9.out
          · exact HC9.out.set0 _
          · have h1 := HS9.out; simp [World.setCell]; omega
        case measure => simp [intOf]; omega
      | false =>
        go_upto_region 8 with (go_at_call 31; refine (HSM.out _ (gtrans HKW.out HKX.out)).mono ?_; rintro e w6 ⟨rfl, hk6⟩; have HK6 := hide1 hk6; clear hk6)
        clear x0 x1 x2 x3 x4 x5 x6 x7
        obtain ⟨W8, hW8⟩ : ∃ W8, W8 = w6 := ⟨_, rfl⟩
        obtain ⟨a8, ha8⟩ : ∃ z, z = ka := ⟨_, rfl⟩
        obtain ⟨n8, hn8⟩ : ∃ z, z = kn := ⟨_, rfl⟩
        obtain ⟨c8, hc8⟩ : ∃ z, z = kc := ⟨_, rfl⟩
        subst hW8 ha8 hn8 hc8
        have HW8 : Hid (Kept wr W8) := gtrans HKX.out HK6.out
        have HX8 := hide1 (HX1.out.keep HK6.out)
        have HK8 : Hid (KidsAt (FarS w.heap.size (g + 3) W8 (xa, j, xc) (none, 0, 0) (none, 0, 0)) W8 n (kids p) (.slice a8 n8 c8)) := by
          have h4 := HT.out.lex
          have h5 := HG.out
          exact KidsAt.mono ((gtrans HKW.out HW8.out).holds _) (fun d (hd : d < w.heap.size) => ⟨.inl hd, Nat.lt_of_lt_of_le hd (gtrans HKW.out HW8.out).size, fun e => by have h6 := (h4.lt' d e).1; omega, own_nil0 d, own_nil0 d⟩) _ _ _ HKA0.out
        have HC8 := hide1 (HO.out.keep HW8.out)
        obtain ⟨⟨x0, x1, x2, x3, x4, x5, x6, x7⟩, -⟩ := HX8.out.facts
        have o0 := HC8.out.facts.1.1
        go_wp2_with (at_builtin
                     refine wpl_lo (E := lexE) rfl _ _ rfl (g + 3) (.slice xa j xc) its j HIL.out (by rfl) (HT.out.lex.keep (gtrans HW8.out ((Kept.refl W8).alloc _ _))) W8.heap.size (nm, tr, kp, fp, tp, mp, xp, (a8, n8, c8)) (by rfl) (heap_alloc_new W8 _) (by show (j + 1) * 88 ≤ 140737488355328; have := HZ.out.1; omega) (by unfold maxLen; have := HZ.out.1; omega) (by have h1 := HGS.out; have h2 := HW8.out.size; rw [World.size_alloc]; omega) ?_
                     intro g9 c9 w9 ho9 hg9 hor9 hl9
                     have HO9 := hide1 ho9
                     have HG9 := hide1 hg9
                     have HR9 := hide1 hor9
                     have HC9 := hide1 (show SpB w9 (g + 2) (.slice xa j xc) (.slice none 0 0) (.int .i64 st) (.slice none 0 0) from (box_gr (HT.out.lex.keep (gtrans HW8.out ((Kept.refl W8).alloc _ _))) hg9 (by omega) (by have h1 := HGS.out; have h2 := HW8.out.size; rw [World.size_alloc]; omega)).trans ((heap_alloc_old W8 _ (by have h1 := HGS.out; have h2 := HW8.out.size; omega)).trans HC8.out))
                     obtain ⟨⟨d0, d1, d2, d3⟩, df, dl⟩ := HC9.out.facts
                     have d4 := df 0
                     clear ho9 hg9 hor9 hl9 df)
        clear d0 d1 d2 d3 d4 dl x0 x1 x2 x3 x4 x5 x6 x7 o0
        have HWA : Hid (Kept wr (W8.alloc (.cells (lexE.enc (nm, tr, kp, fp, tp, mp, xp, (a8, n8, c8))).toArray 72))) := gtrans HW8.out ((Kept.refl W8).alloc _ _)
        have HT9 : Hid (TwJ w.heap.size (g + 3) w9 (some ⟨g9, 0, none⟩, j + 1, c9) (none, 0, 0) (none, 0, 0) (its ++ [(nm, tr, kind p, from_ p, to_ p, min_ p, max_ p, (a8, n8, c8))]) [] (sp.lex.take j ++ [(nm, tr, ⟨n, p⟩)]) [] []) := by
          have hlo := HO9.out
          obtain ⟨e1, e2, e3, e4, e5⟩ := HPE.out
          refine TwJ.addL (x := (nm, tr, ⟨n, p⟩)) (sv := (a8, n8, c8)) (HT.out.keep HWA.out) ?_ (by rw [e1, e2, e3, e4, e5]; exact hlo) HG9.out HR9.out
          exact KidsAt.mono (((Kept.refl W8).alloc _ _).holds _) (fun d hd => ⟨hd.1, by rw [World.size_alloc]; have := hd.2.1; omega, hd.2.2⟩) _ _ _ HK8.out
        have HB9 : Hid (SpB w9 g (.slice (some ⟨cb, o, none⟩) ln lc) (.slice na nn nc) (.int .i64 st) (.slice pa pn pc)) := (box_gr (HT.out.lex.keep HWA.out) HG9.out (by omega) (by have h1 := HGS.out; have h2 := HW8.out.size; rw [World.size_alloc]; omega)).trans (HBA.out.keep HWA.out)
        have HZ9 : Hid (SpB w9 (g + 1) (.slice none 0 0) (.slice none 0 0) (.int .i64 0) (.slice none 0 0)) := (box_gr (HT.out.lex.keep HWA.out) HG9.out (by omega) (by have h1 := HGS.out; have h2 := HW8.out.size; rw [World.size_alloc]; omega)).trans (HBZ.out.keep HWA.out)
        have HW9 : Hid (Kept w w9) := kept_grB (gtrans HKW.out HWA.out) (by have := HG.out; omega) (HT.out.lex.keep HWA.out) HG9.out
        have HS9 : Hid (g + 3 ≤ w9.heap.size) := by
          have h1 := HGS.out
          have h2 := HWA.out.size
          have h3 := HG9.out.size
          have h4 : wr.heap.size ≤ w9.heap.size := Nat.le_trans h2 h3
          show _ ≤ _
          omega
        go_roundw
        case rel =>
          refine ⟨j + 1, some ⟨g9, 0, none⟩, c9, by go_num, by omega, keep_set HW9.out (by have := HG.out; omega), ⟨_, by rw [HTK.out]; exact HT9.out.set (by have := HG.out; omega) (by omega)⟩, ?_, ?_, ?_, ?_⟩
          · exact (Below.heap_setCell w9 _ _ _ (by show g ≠ g + 2; omega)).trans HB9.out
          · exact (Below.heap_setCell w9 _ _ _ (by show g + 1 ≠ g + 2; omega)).trans HZ9.out
          · exact HC9.out.set0 _
          · have h1 := HS9.out; simp [World.setCell]; omega
        case measure => simp [intOf]; omega
    · have hjl : j = ln := by omega
      subst hjl
      have HTF : Hid (TwJ w.heap.size (g + 3) wr (xa, j, xc) (none, 0, 0) (none, 0, 0) its [] sp.lex [] []) := by
        have h := HT.out
        rw [List.take_of_length_le (Nat.le_of_eq HLN.out)] at h
        exact h
      obtain ⟨⟨o0, o1, o2, o3⟩, -⟩ := HO.out.facts
      go_upto_region 10 with (at_builtin
                              refine wpl_many (E := strE) rfl _ _ rfl (g + 3) (.slice none 0 0) [] sp.nam 0 nn nn rfl HNN.out (Nat.zero_add _) (by rfl) (LO.nil _ _) na nc (by rfl) ((names_src HA.out.2.1).keep HKW.out) (by show nn * 16 ≤ 140737488355328; have := HZ.out.2.1; omega) (by unfold maxLen; have := HZ.out.2.1; omega) HGS.out ?_
                              intro a9 c9 w9 ho9 hg9 hor9
                              have HO9 := hide1 ho9
                              have HG9 := hide1 hg9
                              have HR9 := hide1 hor9
                              have HK9 : Hid (Kept wr w9) := ⟨hg9.os, hg9.tape, hg9.output, hg9.size, fun k hk => hg9.block k hk (by simp [Value.ownBlock])⟩
                              have HC9 := hide1 (HO.out.keep HK9.out)
                              obtain ⟨⟨d0, d1, d2, d3⟩, df, dl⟩ := HC9.out.facts
                              have d4 := df 1
                              clear ho9 hg9 hor9 df)
      clear d0 d1 d2 d3 d4 dl a0 a1 a2 a3 o0 o1 o2 o3
      have HT9 : Hid (TwJ w.heap.size (g + 3) w9 (xa, j, xc) (a9, nn, c9) (none, 0, 0) its [] sp.lex sp.nam []) := TwJ.addN HTF.out HO9.out HG9.out HR9.out
      obtain ⟨WA, hWA⟩ : ∃ WA, w9.setCell ⟨g + 2, 1, none⟩ (.slice a9 nn c9) = WA := ⟨_, rfl⟩
      rw [hWA]
      have HLA : Hid (Lp2 w g sp (.slice la j lc) (.slice na nn nc) (.slice pa pn pc) st (xa, j, xc) (a9, nn, c9) its 0 (none, 0, 0) WA) := by
        rw [← hWA]
        refine ⟨keep_set (gtrans HKW.out HK9.out) (by have := HG.out; omega), ⟨[], HT9.out.set (by have := HG.out; omega) (by omega)⟩, ?_, ?_, HC9.out.set1 _, ?_⟩
        · exact (Below.heap_setCell w9 _ _ _ (by show g ≠ g + 2; omega)).trans (HBA.out.keep HK9.out)
        · exact (Below.heap_setCell w9 _ _ _ (by show g + 1 ≠ g + 2; omega)).trans (HBZ.out.keep HK9.out)
        · have h1 := HGS.out; have h2 := HK9.out.size; simp [World.setCell]; omega
      clear hWA HTF HT9 HC9 HK9 HO9 HG9 HR9 HT HO HBA HBZ HKW HGS
      go_wp2_with fail
      go_loopw [6] (fun i wr => ∃ (m : Nat) (xa' : Option Addr) (xc' : Nat), i = .int .i64 (m : Int) ∧ m ≤ pn ∧ Lp2 w g sp (.slice la j lc) (.slice na nn nc) (.slice pa pn pc) st (xa, j, xc) (a9, nn, c9) its m (xa', m, xc') wr) (fun i _ => pn - (intOf i).toNat)
      case atStart => exact ⟨0, none, 0, rfl, Nat.zero_le _, HLA.out⟩
      case round =>
        obtain ⟨m, ya, yc, rfl, hm, hLp⟩ := hrel
        obtain ⟨wt, hwt⟩ : ∃ wt, wt = wr := ⟨_, rfl⟩
        subst hwt
        obtain ⟨hkw, ⟨qs, htw⟩, hb0, hb1, hb2, hgs⟩ := hLp
        have HKW := hide1 hkw
        have HT := hide1 htw
        have HQL := hide1 (show qs.length = m from lo_lens htw.prd)
        have HBA := hide1 hb0
        have HBZ := hide1 hb1
        have HO := hide1 hb2
        have HGS := hide1 hgs
        clear hkw htw hb0 hb1 hb2 hgs
        obtain ⟨⟨a0, a1, a2, a3⟩, -⟩ := HBA.out.facts
        by_cases hlt2 : (m : Int) < (pn : Int)
        · obtain ⟨x, hx⟩ : ∃ x, sp.prd[m]? = some x := ⟨_, List.getElem?_eq_getElem (by have := HPN.out; omega)⟩
          obtain ⟨cb, o, ra, rc, ea, q0, q1, hra⟩ := prods_el (HA.out.keep HKW.out).2.2 hx
          subst ea
          have hrz := HZ4.out x (List.mem_of_getElem? hx)
          obtain ⟨lf, row⟩ := x
          dsimp only at q0 q1 hra hrz
          have HTK := hide1 (take_snoc hx)
          obtain ⟨rn, hrn⟩ : ∃ z, row.length = z := ⟨_, rfl⟩
          rw [hrn] at hra q1 hrz
          have HRA := hide1 hra
          have HRN := hide1 hrn
          have HRZ := hide1 hrz
          clear hx hra hrn hrz
          go_upto_region 14 with fail
          have HPK : Hid (Kept wt (wt.alloc (.cells #[.int .i64 lf, .slice none 0 0] 66))) := (Kept.refl wt).alloc _ _
          have HPB := hide1 (PdB.new wt lf (.slice none 0 0))
          obtain ⟨wp, hwp⟩ : ∃ wp, wt.alloc (.cells #[.int .i64 lf, .slice none 0 0] 66) = wp := ⟨_, rfl⟩
          rw [hwp] at HPK HPB ⊢
          obtain ⟨gp, hgp⟩ : ∃ g, wt.heap.size = g := ⟨_, rfl⟩
          have HGP := hide1 hgp
          rw [hgp] at HPB ⊢
          clear hwp hgp a0 a1 a2 a3
          have HPA := hide1 (HBA.out.keep HPK.out)
          have Q1 := hide1 (grown_cell HPK.out q1)
          clear q0 q1
          refine z_region (S := fun w' => Kept wp w') 10 (by kernel_rfl) (drew_kept _) (fun hHeld => ?_)
          refine tkZ 0 (.pointer (some ⟨gp, 1, none⟩)) [10] rfl (fun w' hSw => ?_) ?_
          · clear hSw
            go_simp
          try simp only [layS]
          refine tkZ 1 (.slice none 0 0) [10] rfl (fun w' hSw => ?_) ?_
          · have q := (HPB.out.keep hSw).facts.1.2; clear hSw
            go_simp
          try simp only [layS]
          refine tkZ 2 (.pointer (some ⟨g, 3, none⟩)) [10] rfl (fun w' hSw => ?_) ?_
          · clear hSw
            go_simp
          try simp only [layS]
          refine tkZ 3 (.slice (some ⟨cb, o, none⟩) pn pc) [10] rfl (fun w' hSw => ?_) ?_
          · have q := (HPA.out.keep hSw).facts.1.2.2.2; clear hSw
            go_simp
          try simp only [layS]
          refine tkZ 4 (.int .i64 (m : Int)) [10] rfl (fun w' hSw => ?_) ?_
          · clear hSw
            go_simp
          try simp only [layS]
          refine tkZ 5 (.pointer (some ⟨cb, o + m * 2, none⟩)) [10] rfl (fun w' hSw => ?_) ?_
          · clear hSw
            go_simp
          try simp only [layS]
          refine tkZ 6 (.pointer (some ⟨cb, o + m * 2 + 1, none⟩)) [10] rfl (fun w' hSw => ?_) ?_
          · clear hSw
            go_simp
          try simp only [layS]
          refine tkZ 7 (.slice ra rn rc) [10] rfl (fun w' hSw => ?_) ?_
          · have q := grown_cell hSw Q1.out; clear hSw
            go_simp
          try simp only [layS]
          refine z_one (i := 8) (by kernel_rfl) (by rfl) rfl (fun K hK => ?_)
          refine step_many (E := symE) rfl _ _ rfl (g + 3) (.slice none 0 0) [] row 0 rn rn rfl HRN.out (Nat.zero_add _) (by rfl) (LO.nil _ _) ra rc (by rfl) ((right_src HRA.out).keep (gtrans HPK.out (drew_kept _))) (by show rn * 16 ≤ 140737488355328; have := HRZ.out; omega) (by unfold maxLen; have := HRZ.out; omega) (by have h1 := HGS.out; have h2 := (gtrans HPK.out (drew_kept wp)).size; omega) ?_
          intro a9' c9' w9' ho9 hg9 hor9
          have HO9 := hide1 ho9
          have HK9 : Hid (Kept wp w9') := gtrans (drew_kept wp) ⟨hg9.os, hg9.tape, hg9.output, hg9.size, fun k hk => hg9.block k hk (by simp [Value.ownBlock])⟩
          clear ho9 hg9 hor9
          refine hK.out _ _ HK9.out (fun hHeldN => ?_)
          clear hK K hHeld
          have hHeld := hHeldN
          clear hHeldN
          try simp only [layS]
          refine tkZ 9 (.pointer (some ⟨gp, 1, none⟩)) [10] rfl (fun w' hSw => ?_) ?_
          · clear hSw
            go_simp
          try simp only [layS]
          refine z_last (by kernel_rfl) (by kernel_rfl) rfl (fun K hK => ?_)
          obtain ⟨⟨c0, c1⟩, cf, hlb⟩ := (HPB.out.keep HK9.out).facts
          have z1 := cf 1
          clear cf
          go_simp
          refine hK.out _ _ ?_
          clear hK K hHeld c0 c1 z1 hlb
          obtain ⟨WB, hWB⟩ : ∃ WB, w9'.setCell ⟨gp, 1, none⟩ (.slice a9' rn c9') = WB := ⟨_, rfl⟩
          have HKB : Hid (Kept wt WB) := by rw [← hWB]; exact keep_set (gtrans HPK.out HK9.out) (Nat.le_of_eq HGP.out)
          have HPX : Hid (PdB WB gp lf (.slice a9' rn c9')) := by rw [← hWB]; exact (HPB.out.keep HK9.out).set1 _
          have HSY : Hid (LO symE WB (g + 3) (.slice a9' rn c9') row) := by
            rw [← hWB]
            refine HO9.out.same (fun d hd => Below.heap_setCell _ _ _ _ (fun e => ?_))
            obtain ⟨c1, e1⟩ := LO.type HO9.out hd
            have e2 : w9'.heap[gp]? = _ := HPB.out.keep HK9.out
            subst e
            rw [e2] at e1
            injection e1 with e1
            injection e1 with _ e3 _
            exact absurd e3 (by decide)
          rw [hWB]
          clear hWB
          obtain ⟨⟨x0, x1⟩, -⟩ := HPX.out.facts
          have HC8 := hide1 ((show SpB wt (g + 2) (.slice xa j xc) (.slice a9 nn c9) (.int .i64 st) (.slice ya m yc) from HO.out).keep HKB.out)
          have o3 := HC8.out.facts.1.2.2.2
          go_wp2_with (at_builtin
                       refine wpl_lo (E := prdE) rfl _ _ rfl (g + 3) (.slice ya m yc) qs m HQL.out (by rfl) (HT.out.prd.keep (gtrans HKB.out ((Kept.refl WB).alloc _ _))) WB.heap.size (lf, (a9', rn, c9')) (by rfl) (heap_alloc_new WB _) (by show (m + 1) * 32 ≤ 140737488355328; have := HZ.out.2.2; omega) (by unfold maxLen; have := HZ.out.2.2; omega) (by have h1 := HGS.out; have h2 := HKB.out.size; rw [World.size_alloc]; omega) ?_
                       intro gq cq wq hoq hgq horq hlq
                       have HOQ := hide1 hoq
                       have HGQ := hide1 hgq
                       have HRQ := hide1 horq
                       have HCQ := hide1 (show SpB wq (g + 2) (.slice xa j xc) (.slice a9 nn c9) (.int .i64 st) (.slice ya m yc) from (box_gr (HT.out.prd.keep (gtrans HKB.out ((Kept.refl WB).alloc _ _))) hgq (by omega) (by have h1 := HGS.out; have h2 := HKB.out.size; rw [World.size_alloc]; omega)).trans ((heap_alloc_old WB _ (by have h1 := HGS.out; have h2 := HKB.out.size; omega)).trans HC8.out))
                       obtain ⟨⟨d0, d1, d2, d3⟩, df, dl⟩ := HCQ.out.facts
                       have d4 := df 3
                       clear hoq hgq horq hlq df)
          clear d0 d1 d2 d3 d4 dl x0 x1 o3
          have HWA : Hid (Kept wt (WB.alloc (.cells (prdE.enc (lf, (a9', rn, c9'))).toArray 66))) := gtrans HKB.out ((Kept.refl WB).alloc _ _)
          have HTQ : Hid (TwJ w.heap.size (g + 3) wq (xa, j, xc) (a9, nn, c9) (some ⟨gq, 0, none⟩, m + 1, cq) its (qs ++ [(lf, (a9', rn, c9'))]) sp.lex sp.nam (sp.prd.take m ++ [(lf, row)])) :=
            TwJ.addP (p := (lf, row)) (sv := (a9', rn, c9')) (HT.out.keep HWA.out) (HSY.out.keep ((Kept.refl WB).alloc _ _)) HOQ.out HGQ.out HRQ.out
          have HBQ : Hid (SpB wq g (.slice la j lc) (.slice na nn nc) (.int .i64 st) (.slice (some ⟨cb, o, none⟩) pn pc)) := (box_gr (HT.out.prd.keep HWA.out) HGQ.out (by omega) (by have h1 := HGS.out; have h2 := HKB.out.size; rw [World.size_alloc]; omega)).trans (HBA.out.keep HWA.out)
          have HZQ : Hid (SpB wq (g + 1) (.slice none 0 0) (.slice none 0 0) (.int .i64 0) (.slice none 0 0)) := (box_gr (HT.out.prd.keep HWA.out) HGQ.out (by omega) (by have h1 := HGS.out; have h2 := HKB.out.size; rw [World.size_alloc]; omega)).trans (HBZ.out.keep HWA.out)
          have HWQ : Hid (Kept w wq) := kept_grB (gtrans HKW.out HWA.out) (by have := HG.out; omega) (HT.out.prd.keep HWA.out) HGQ.out
          have HSQ : Hid (g + 3 ≤ wq.heap.size) := by
            have h1 := HGS.out
            have h4 : wt.heap.size ≤ wq.heap.size := Nat.le_trans HWA.out.size HGQ.out.size
            show _ ≤ _
            omega
          go_roundw
          case rel =>
            refine ⟨m + 1, some ⟨gq, 0, none⟩, cq, by go_num, by omega, keep_set HWQ.out (by have := HG.out; omega), ⟨_, by rw [HTK.out]; exact HTQ.out.set (by have := HG.out; omega) (by omega)⟩, ?_, ?_, ?_, ?_⟩
            · exact (Below.heap_setCell wq _ _ _ (by show g ≠ g + 2; omega)).trans HBQ.out
            · exact (Below.heap_setCell wq _ _ _ (by show g + 1 ≠ g + 2; omega)).trans HZQ.out
            · exact HCQ.out.set3 _
            · have h1 := HSQ.out; simp [World.setCell]; omega
          case measure => simp [intOf]; omega
        · have hml : m = pn := by omega
          subst hml
          have HTF : Hid (TwJ w.heap.size (g + 3) wt (xa, j, xc) (a9, nn, c9) (ya, m, yc) its qs sp.lex sp.nam sp.prd) := by
            have h := HT.out
            rw [List.take_of_length_le (Nat.le_of_eq HPN.out)] at h
            exact h
          obtain ⟨⟨o0, o1, o2, o3⟩, -⟩ := (show SpB wt (g + 2) (.slice xa j xc) (.slice a9 nn c9) (.int .i64 st) (.slice ya m yc) from HO.out).facts
          obtain ⟨⟨b0, b1, b2, b3⟩, bf, bl⟩ := HBZ.out.facts
          have f0 := bf 0
          have f1 := bf 1
          have f2 := bf 2
          have f3 := bf 3
          clear bf
          go_wp2_with fail
          refine bodyPost_ret (spec_ret rfl _ _ (g + 1) _ _ _ _ rfl (HBZ.out.set4 _ _ _ _)) rfl ?_
          refine ⟨⟨(xa, j, xc), (a9, nn, c9), (ya, m, yc), rfl, g + 3, its, qs, by have := HG.out; omega, by have := HGS.out; simp [World.setCell]; exact this, ?_⟩, ?_⟩
          · have h1 := HG.out
            exact (((HTF.out.set (by omega) (by omega)).set (by omega) (by omega)).set (by omega) (by omega)).set (by omega) (by omega)
          · have h1 := HG.out
            exact keep_set (keep_set (keep_set (keep_set HKW.out (by omega)) (by omega)) (by omega)) (by omega)
end Gu
end Ex
end Go.Proofs.YtbnchnlogikecaaGreatDoor
