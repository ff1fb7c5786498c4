import Derived.Test.YtbnchnlogikecaaGreatDoorPSpSz2
import Derived.Test.YtbnchnlogikecaaGreatDoorPExKl
import Derived.Test.YtbnchnlogikecaaGreatDoorPGuL
import Derived.Carry
import Derived.Defers
import Derived.Recover
import Derived.Deep.DeepMust
import Derived.BigQuiet
import Derived.Deep.RegionHeld3
namespace Go.Proofs.YtbnchnlogikecaaGreatDoor
open Go.RowKit Go.Maps
attribute [local go_sem] Oper.semAt_some
set_option linter.unusedVariables false
set_option linter.unusedSimpArgs false
set_option maxRecDepth 100000
set_option maxHeartbeats 4000000
namespace Ex
namespace Gu
open Sh Gs
theorem newChecker_is (la na pa : Option Addr) (ln lc nn nc pn pc : Nat) (st : Int) (w : World) :
    Calls Tryz.prog 41 #[.agg #[.slice la ln lc, .slice na nn nc, .int .i64 st, .slice pa pn pc]] w fun e w' => ∃ b m, e = .returned (.pointer (some ⟨b, 0, none⟩)) ∧ ChI w w' b (.slice la ln lc) (.slice na nn nc) (.slice pa pn pc) st [] [] m (none, 0, 0) := by
  have hmm := @run_makeMap Tryz.prog
  have HK1 := hide1 ((Kept.refl w).alloc #[.slice la ln lc, .slice na nn nc, .int .i64 st, .slice pa pn pc] 27)
  have HB1 : Hid ((w.alloc (.cells #[.slice la ln lc, .slice na nn nc, .int .i64 st, .slice pa pn pc] 27)).heap[w.heap.size]? = some (.cells #[.slice la ln lc, .slice na nn nc, .int .i64 st, .slice pa pn pc] 27 (0, 0))) := heap_alloc_new w _
  go_enter Tryz.func41, Tryz.ntmps41
  go_upto_region 1 with fail
  obtain ⟨g1, hg1⟩ : ∃ g, w.heap.size = g := ⟨_, rfl⟩
  generalize w.alloc (.cells #[.slice la ln lc, .slice na nn nc, .int .i64 st, .slice pa pn pc] 27) = W1 at HK1 HB1 ⊢
  have HG1 := hide1 hg1
  rw [hg1] at HB1 ⊢
  clear hg1
  have k0 : W1.cell? ⟨g1, 0, none⟩ = some (.slice la ln lc) := by have := HB1.out; simp [World.cell?, this]
  have k1 : W1.cell? ⟨g1, 1, none⟩ = some (.slice na nn nc) := by have := HB1.out; simp [World.cell?, this]
  have k2 : W1.cell? ⟨g1, 2, none⟩ = some (.int .i64 st) := by have := HB1.out; simp [World.cell?, this]
  have k3 : W1.cell? ⟨g1, 3, none⟩ = some (.slice pa pn pc) := by have := HB1.out; simp [World.cell?, this]
  go_wp2_with fail
  go_ret
  refine ⟨W1.heap.size + 1, W1.heap.size, rfl, ?_⟩
  have hk2 : Kept w (W1.alloc (.map #[] 0)) := Kept.of (HK1.out.below.alloc HK1.out.size _)
  refine ⟨hk2.alloc _ _, ?_, by have := HK1.out.size; omega, HK1.out.size, ?_, LO.nil _ _⟩
  · have h := heap_alloc_new (W1.alloc (.map #[] 0)) (.cells #[.slice la ln lc, .slice na nn nc, .int .i64 st, .slice pa pn pc, .map (some W1.heap.size), .slice none 0 0] 96)
    rw [World.size_alloc] at h
    exact h
  · have h : TMap (W1.alloc (.map #[] 0)) W1.heap.size [] := MapS.made (World.ownsMap_made W1 Tryz.prog 9 uniR)
    exact h.same (heap_alloc_old _ _ (by rw [World.size_alloc]; omega))
theorem rulesC_bad : ∀ (i : Nat) (xs : List LxM) (r : CkS), Bad (rulesC i xs r)
  | _, [], _ => bad_ok
  | i, x :: xs, r => by
    rw [rulesC]
    refine Bad.bind ?_ (fun r1 _ => rulesC_bad (i + 1) xs r1)
    unfold ruleC nameC
    refine Bad.bind ?_ (fun r1 _ => ?_)
    · split
      · exact bad_lit (by decide)
      · split
        · exact bad_lit (by decide)
        · exact bad_ok
    · split
      · rename_i h; exact bad_lit h
      · exact bad_ok
theorem namesC_bad : ∀ (i : Nat) (xs : List ByteArray) (r : CkS), Bad (namesC i xs r)
  | _, [], _ => bad_ok
  | i, x :: xs, r => by
    rw [namesC]
    refine Bad.bind ?_ (fun r1 _ => namesC_bad (i + 1) xs r1)
    unfold nameC
    split
    · exact bad_lit (by decide)
    · split
      · exact bad_lit (by decide)
      · exact bad_ok
theorem prodsC_bad {ln nn : Nat} : ∀ (i : Nat) (ps : List ProdM) (a : Int), Bad (prodsC ln nn i ps a)
  | _, [], _ => bad_ok
  | i, p :: ps, a => by
    rw [prodsC]
    refine Bad.bind ?_ (fun _ _ => prodsC_bad (i + 1) ps p.1)
    unfold prodC
    split
    · exact bad_lit (by decide)
    · split
      · exact bad_lit (by decide)
      · split
        · exact bad_lit (by decide)
        · exact bad_ok
theorem sidesC_bad : ∀ (i : Nat) (ps : List ProdM), Bad (sidesC i ps)
  | _, [] => bad_ok
  | i, p :: ps => by
    rw [sidesC]
    split
    · exact bad_lit (by decide)
    · exact sidesC_bad (i + 1) ps
theorem checkC_bad (sp : SpV) : Bad (checkC sp) := by
  unfold checkC
  refine Bad.bind ?_ (fun _ _ => (rulesC_bad _ _ _).bind fun _ _ => (namesC_bad _ _ _).bind fun _ _ => ?_)
  · unfold sizesC
    split
    · exact bad_lit (by decide)
    · split
      · exact bad_lit (by decide)
      · split
        · exact bad_lit (by decide)
        · exact sidesC_bad _ _
  · unfold lastC
    split
    · exact bad_lit (by decide)
    · refine (prodsC_bad _ _ _).bind fun _ _ => ?_
      split
      · exact bad_lit (by decide)
      · exact bad_ok
theorem ChI.set {w0 w : World} {b : Nat} {vl vn vp : Value} {st : Int} {tk ps : List ByteArray} {m : Nat} {xP : SlV} (h : ChI w0 w b vl vn vp st tk ps m xP) {g : Nat} (hn : ¬ Ow b m xP g) (hg : w0.heap.size ≤ g) (o : Nat) (v : Value) : ChI w0 (w.setCell ⟨g, o, none⟩ v) b vl vn vp st tk ps m xP :=
  ⟨kept_of_kt (S := fun _ => False) (KT.wide (h.kept.kt _) (set_kt _ _ _ _) (fun d hd hs => by omega)) (fun d h => h.elim), (Below.heap_setCell _ _ _ _ (fun e => hn (.inl e.symm))).trans h.box, h.lb, h.lm, h.map.same (Below.heap_setCell _ _ _ _ (fun e => hn (.inr (.inl e.symm)))), h.pats.same (fun d hd => Below.heap_setCell _ _ _ _ (fun e => hn (.inr (.inr (by rw [hd]; exact congrArg some e)))))⟩
def OutD (w0 : World) (b : Nat) (vl vn vp : Value) (st : Int) (m : Nat) (x : Except Flt CkS) (e : Ending) (w' : World) : Prop :=
  match x with
  | .ok r => e = .returned okV ∧ ∃ xP', ChI w0 w' b vl vn vp st r.1 r.2 m xP'
  | .error f => e = .returned (fltV f) ∧ Kept w0 w'
theorem caughtC_is (w0 : World) (hP : PowAt w0) (b m : Nat) (la na pa : Option Addr) (ln lc nn nc pn pc : Nat) (sp : SpV) (xP : SlV) (w : World) (h : ChI w0 w b (.slice la ln lc) (.slice na nn nc) (.slice pa pn pc) sp.start [] [] m xP) (hr : SpR w0 (.slice la ln lc) (.slice na nn nc) (.slice pa pn pc) sp) :
    Calls Tryz.prog 39 #[.func (.func 42) #[.pointer (some ⟨b, 0, none⟩)] #[]] w (OutD w0 b (.slice la ln lc) (.slice na nn nc) (.slice pa pn pc) sp.start m (checkC sp)) := by
  have hmf : ∀ (fn : Fn) (first cap : Array Value) (w : World), (Instr.makeFunc fn first cap).run Tryz.prog w = .ok (.func fn first cap) w := fun _ _ _ _ => rfl
  obtain ⟨X, hX⟩ : ∃ X, checkC sp = X := ⟨_, rfl⟩
  rw [hX]
  have HWH : Hid (∀ w xP, ChI w0 w b (.slice la ln lc) (.slice na nn nc) (.slice pa pn pc) sp.start [] [] m xP → Calls Tryz.prog 42 #[.pointer (some ⟨b, 0, none⟩)] w (OutK w0 b (.slice la ln lc) (.slice na nn nc) (.slice pa pn pc) sp.start m xP w X)) := fun w xP h => by
    rw [← hX]
    exact cwhole_is w0 hP b m la na pa ln lc nn nc pn pc sp xP w h hr
  have HFR := hide1 (h.far (Nat.le_refl _))
  have HKS := hide1 h.kept.size
  have HI1 := hide1 (h.keep ((Kept.refl w).alloc #[.int .i64 0, .int .i64 0, .string ⟨#[]⟩] 30))
  have HB1 : Hid (FbB (w.alloc (.cells #[.int .i64 0, .int .i64 0, .string ⟨#[]⟩] 30)) w.heap.size 0 0 ⟨#[]⟩) := heap_alloc_new w _
  clear hX h hr hP
  go_enter_defers Tryz.func39, Tryz.ntmps39
  go_upto_region 1 with fail
  obtain ⟨g, hg⟩ : ∃ g, w.heap.size = g := ⟨_, rfl⟩
  generalize w.alloc (.cells #[.int .i64 0, .int .i64 0, .string ⟨#[]⟩] 30) = W1 at HI1 HB1 ⊢
  rw [hg] at HB1 HFR HKS ⊢
  clear hg
  go_wp2_with fail
  go_at_call 42
  refine (HWH.out _ _ HI1.out).mono ?_
  intro e w2 h2
  rcases X with f | r2
  · obtain ⟨rfl, hf2, hkt2⟩ := h2
    obtain ⟨f0, f1, f2⟩ := f
    have HB2 := hide1 (show FbB w2 g 0 0 ⟨#[]⟩ from (hkt2.2.2.2.2 g (Array.getElem?_eq_some_iff.1 HB1.out).1 HFR.out).trans HB1.out)
    have HF2 := hide1 hf2
    clear hf2 hkt2
    unfold thrown
    go_wp2_with fail
    refine leaves_cons (f := 48) (args := #[.pointer (some ⟨g, 0, none⟩)]) (by simp) (by simp [go_sem]) ?_
    refine (catch_bad g _ _ 0 0 _ ⟨#[]⟩ _ _ HB2.out).mono ?_
    rintro e u' w'' ⟨rfl, rfl, rfl⟩
    have HB3 := hide1 (HB2.out.set f0 f1 f2)
    have hk3 : Kept w0 (Gs.set3 w2 g (.int .i64 f0) (.int .i64 f1) (.string f2)) := kept_of_kt (S := fun _ => False) (Gs.KT.set3 (HF2.out.kt _) HKS.out (.int .i64 f0) (.int .i64 f1) (.string f2)) (fun d h => h.elim)
    unfold Gs.set3 at hk3
    have HF3 := hide1 hk3
    clear hk3
    dsimp only at HB3 HF3 ⊢
    generalize ((w2.setCell ⟨g, 0, none⟩ (.int .i64 f0)).setCell ⟨g, 1, none⟩ (.int .i64 f1)).setCell ⟨g, 2, none⟩ (.string f2) = W3 at HB3 HF3 ⊢
    obtain ⟨⟨c0, c1, c2⟩, -⟩ := HB3.out.facts
    simp [Leaves, settle, results, Tryz.results39, go_sem, c0, c1, c2]
    exact ⟨rfl, HF3.out⟩
  · obtain ⟨rfl, xP2, hi2, hg2⟩ := h2
    have HB2 := hide1 (show FbB w2 g 0 0 ⟨#[]⟩ from (hg2.block (Array.getElem?_eq_some_iff.1 HB1.out).1 HFR.out).trans HB1.out)
    have HF2 := hide1 (hg2.far (Array.getElem?_eq_some_iff.1 HB1.out).1 HFR.out)
    have HI2 := hide1 hi2
    obtain ⟨⟨c0, c1, c2⟩, z0, z1, z2⟩ := HB2.out.facts
    have hlg := (Array.getElem?_eq_some_iff.1 HB2.out).1
    clear hi2 hg2
    go_wp2_with fail
    have HB3 := hide1 (HB2.out.set 0 0 ⟨#[]⟩)
    have HI3 : Hid (ChI w0 (((w2.setCell ⟨g, 0, none⟩ (.int .i64 0)).setCell ⟨g, 1, none⟩ (.int .i64 0)).setCell ⟨g, 2, none⟩ (.string ⟨#[]⟩)) b (.slice la ln lc) (.slice na nn nc) (.slice pa pn pc) sp.start r2.1 r2.2 m xP2) := ((HI2.out.set HF2.out HKS.out 0 (.int .i64 0)).set HF2.out HKS.out 1 (.int .i64 0)).set HF2.out HKS.out 2 (.string ⟨#[]⟩)
    clear c0 c1 c2 z0 z1 z2 hlg
    generalize ((w2.setCell ⟨g, 0, none⟩ (.int .i64 0)).setCell ⟨g, 1, none⟩ (.int .i64 0)).setCell ⟨g, 2, none⟩ (.string ⟨#[]⟩) = W3 at HB3 HI3 ⊢
    refine leaves_cons (f := 48) (args := #[.pointer (some ⟨g, 0, none⟩)]) (by simp) (by simp [go_sem]) ?_
    refine (catch_idle g _).mono ?_
    rintro e u' w'' ⟨rfl, rfl, rfl⟩
    obtain ⟨⟨c0, c1, c2⟩, -⟩ := HB3.out.facts
    simp [Leaves, settle, results, Tryz.results39, go_sem, c0, c1, c2]
    exact ⟨rfl, xP2, HI3.out⟩
def writeM (sp : SpV) : ByteArray × Flt :=
  match checkC sp with
  | .error f => (⟨#[]⟩, f)
  | .ok _ => if 65536 < (linesM sp).length then (⟨#[]⟩, (2, 0, textW)) else (⟨(linesM sp).toArray⟩, (0, 0, ⟨#[]⟩))
theorem wr_results {fn : Func} {p q : Tmp} (h : fn.results = #[.tmp p, .cell q 30]) (tmps : Array Value) (w : World) (g : Nat) (t : ByteArray) (er at_ : Int) (nm : ByteArray)
    (hp : tmps.getD p undef = .string t) (hq : tmps.getD q undef = .pointer (some ⟨g, 0, none⟩)) (hg : FbB w g er at_ nm) :
    (results fn tmps).run Tryz.prog w = .ok (.tuple #[.string t, .agg #[.int .i64 er, .int .i64 at_, .string nm]]) w := by
  have hp2 : tmps[p]?.getD undef = .string t := by simpa using hp
  have hq2 : tmps[q]?.getD undef = .pointer (some ⟨g, 0, none⟩) := by simpa using hq
  have e2 := run_loadVar_row (P := Tryz.prog) w g 30 30 _ (0, 0) _ hg Tryz.underlying30 rfl (by kernel_rfl)
  simp [results, h, hp2, hq2, asAddr, e2]
theorem writeS_is (la na pa : Option Addr) (ln lc nn nc pn pc : Nat) (sp : SpV) (w : World) (hr : SpR w (.slice la ln lc) (.slice na nn nc) (.slice pa pn pc) sp) (hP : PowAt w) :
    Calls Tryz.prog 30 #[.agg #[.slice la ln lc, .slice na nn nc, .int .i64 sp.start, .slice pa pn pc]] w fun e w' => e = .returned (.tuple #[.string (writeM sp).1, fltV (writeM sp).2]) ∧ Kept w w' := by
  have hmf : ∀ (fn : Fn) (first cap : Array Value) (w : World), (Instr.makeFunc fn first cap).run Tryz.prog w = .ok (.func fn first cap) w := fun _ _ _ _ => rfl
  have HK1 := hide1 (((Kept.refl w).alloc #[.slice la ln lc, .slice na nn nc, .int .i64 sp.start, .slice pa pn pc] 27).alloc #[.int .i64 0, .int .i64 0, .string ⟨#[]⟩] 30)
  have HB1 : Hid (((w.alloc (.cells #[.slice la ln lc, .slice na nn nc, .int .i64 sp.start, .slice pa pn pc] 27)).alloc (.cells #[.int .i64 0, .int .i64 0, .string ⟨#[]⟩] 30)).heap[w.heap.size]? = some (.cells #[.slice la ln lc, .slice na nn nc, .int .i64 sp.start, .slice pa pn pc] 27 (0, 0))) := (heap_alloc_old _ _ (by simp)).trans (heap_alloc_new w _)
  have HF1 : Hid (FbB ((w.alloc (.cells #[.slice la ln lc, .slice na nn nc, .int .i64 sp.start, .slice pa pn pc] 27)).alloc (.cells #[.int .i64 0, .int .i64 0, .string ⟨#[]⟩] 30)) (w.heap.size + 1) 0 0 ⟨#[]⟩) := by
    have h := heap_alloc_new (w.alloc (.cells #[.slice la ln lc, .slice na nn nc, .int .i64 sp.start, .slice pa pn pc] 27)) (.cells #[.int .i64 0, .int .i64 0, .string ⟨#[]⟩] 30)
    rw [World.size_alloc] at h
    exact h
  have HR := hide1 hr
  have HP := hide1 hP
  obtain ⟨X, hX⟩ : ∃ X, checkC sp = X := ⟨_, rfl⟩
  obtain ⟨Y, hY⟩ : ∃ Y, writeM sp = Y := ⟨_, rfl⟩
  rw [hY]
  unfold writeM at hY
  rw [hX] at hY
  have HCW : Hid (∀ w0 w1 b m xP, Kept w w0 → ChI w0 w1 b (.slice la ln lc) (.slice na nn nc) (.slice pa pn pc) sp.start [] [] m xP → Calls Tryz.prog 39 #[.func (.func 42) #[.pointer (some ⟨b, 0, none⟩)] #[]] w1 (OutD w0 b (.slice la ln lc) (.slice na nn nc) (.slice pa pn pc) sp.start m X)) := fun w0 w1 b m xP hk h => by
    rw [← hX]
    exact caughtC_is w0 (hP.keep hk) b m la na pa ln lc nn nc pn pc sp xP w1 h (hr.keep hk)
  have HXB : Hid (∀ f, X = .error f → f.1 ≠ 0) := fun f h => checkC_bad sp f (hX.trans h)
  have HXG : Hid (∀ r, X = .ok r → Good sp ∧ r.2 = patsM sp) := fun r h => check_good (hX.trans h)
  have HLNS : Hid (∀ w1 xa xn xc bx, Kept w w1 → Good sp → LO strE w1 bx (.slice xa xn xc) (patsM sp) → Calls Tryz.prog 43 #[.agg #[.slice la ln lc, .slice na nn nc, .int .i64 sp.start, .slice pa pn pc], .slice xa xn xc] w1 fun e w' => e = .returned (.string ⟨(linesM sp).toArray⟩) ∧ Kept w1 w') := fun w1 xa xn xc bx hk hg hx => lines_is la na pa xa ln lc nn nc pn pc xn xc bx sp w1 (hr.keep hk) hg hx
  have HLL : Hid (Good sp → (linesM sp).length ≤ 1000000) := fun h => linesM_len h
  obtain ⟨LT, hLT⟩ : ∃ LT, linesM sp = LT := ⟨_, rfl⟩
  rw [hLT] at hY HLNS HLL
  obtain ⟨st, hst⟩ : ∃ st, sp.start = st := ⟨_, rfl⟩
  rw [hst] at HK1 HB1 HF1 HCW HLNS ⊢
  have HY := hide1 hY
  have HNC := hide1 (newChecker_is la na pa ln lc nn nc pn pc st)
  clear hX hY hr hP hLT hst
  go_enter Tryz.func30, Tryz.ntmps30
  go_upto_region 1 with fail
  obtain ⟨g3, hg3⟩ : ∃ g, w.heap.size + 1 = g := ⟨_, rfl⟩
  rw [hg3] at HF1 ⊢
  obtain ⟨g1, hg1⟩ : ∃ g, w.heap.size = g := ⟨_, rfl⟩
  have HG3 := hide1 (show w.heap.size ≤ g3 by omega)
  generalize (w.alloc (.cells #[.slice la ln lc, .slice na nn nc, .int .i64 st, .slice pa pn pc] 27)).alloc (.cells #[.int .i64 0, .int .i64 0, .string ⟨#[]⟩] 30) = W1 at HK1 HB1 HF1 ⊢
  rw [hg1] at HB1 ⊢
  clear hg1 hg3
  have k0 : W1.cell? ⟨g1, 0, none⟩ = some (.slice la ln lc) := by have := HB1.out; simp [World.cell?, this]
  have k1 : W1.cell? ⟨g1, 1, none⟩ = some (.slice na nn nc) := by have := HB1.out; simp [World.cell?, this]
  have k2 : W1.cell? ⟨g1, 2, none⟩ = some (.int .i64 st) := by have := HB1.out; simp [World.cell?, this]
  have k3 : W1.cell? ⟨g1, 3, none⟩ = some (.slice pa pn pc) := by have := HB1.out; simp [World.cell?, this]
  go_upto_region 2 with (go_at_call 41; go_must (refine (HNC.out W1).mono ?_; rintro e w2 ⟨b, m, rfl, hi2⟩; have HI2 := hide1 hi2; clear hi2))
  clear k0 k1 k2 k3
  go_wp2_with fail
  go_at_call 39
  refine (HCW.out W1 _ b m _ HK1.out HI2.out).mono ?_
  intro e w4 h4
  rcases X with f | r
  · obtain ⟨rfl, hk4⟩ := h4
    have hy := HY.out
    dsimp only at hy
    subst hy
    have hf0 : f.1 ≠ 0 := HXB.out _ rfl
    obtain ⟨f0, f1, f2⟩ := f
    dsimp only at hf0
    unfold fltV
    dsimp only
    have e0 : (f0 != 0) = true := by simpa using hf0
    have HK5 := hide1 ((gtrans HK1.out hk4).alloc #[.int .i64 f0, .int .i64 f1, .string f2] 30)
    have HB5 : Hid (FbB (w4.alloc (.cells #[.int .i64 f0, .int .i64 f1, .string f2] 30)) w4.heap.size f0 f1 f2) := heap_alloc_new w4 _
    have HF5 := hide1 (HF1.out.keep (hk4.alloc #[.int .i64 f0, .int .i64 f1, .string f2] 30))
    have HNE := hide1 (show g3 ≠ w4.heap.size from fun e => by have h1 := (Array.getElem?_eq_some_iff.1 (HF1.out.keep hk4)).1; omega)
    clear hk4 hf0
    go_upto_region 3 with fail
    obtain ⟨g5, hg5⟩ : ∃ g, w4.heap.size = g := ⟨_, rfl⟩
    generalize w4.alloc (.cells #[.int .i64 f0, .int .i64 f1, .string f2] 30) = W5 at HK5 HB5 HF5 ⊢
    rw [hg5] at HB5 HNE ⊢
    clear hg5
    obtain ⟨⟨c0, c1, c2⟩, -⟩ := HB5.out.facts
    go_upto_region 4 with fail
    obtain ⟨⟨b0, b1, b2⟩, zb0, zb1, zb2⟩ := HF5.out.facts
    have hne := HNE.out
    have hne' : g5 ≠ g3 := fun e => hne e.symm
    have hl3 := (Array.getElem?_eq_some_iff.1 HF5.out).1
    go_region
    have hs6 := HF5.out.set f0 f1 f2
    have hk6 : Kept w (Gs.set3 W5 g3 (.int .i64 f0) (.int .i64 f1) (.string f2)) := kept_of_kt (S := fun _ => False) (Gs.KT.set3 (HK5.out.kt _) HG3.out (.int .i64 f0) (.int .i64 f1) (.string f2)) (fun d h => h.elim)
    unfold Gs.set3 at hk6
    have HK6 := hide1 (gtrans hk6 (drew_kept _))
    have HF6 := hide1 (hs6.keep (drew_kept _))
    clear hk6 hs6
    generalize (((W5.setCell ⟨g3, 0, none⟩ (.int .i64 f0)).setCell ⟨g3, 1, none⟩ (.int .i64 f1)).setCell ⟨g3, 2, none⟩ (.string f2)).drew = W6 at HK6 HF6 ⊢
    go_wp2_with fail
    (try simp only [Exit.inBlock, Exit.then])
    refine bodyPost_ret (wr_results rfl _ _ g3 _ _ _ _ rfl rfl HF6.out) rfl ?_
    exact ⟨rfl, HK6.out⟩
  · obtain ⟨rfl, ⟨xa, xn, xc⟩, hi4⟩ := h4
    obtain ⟨hgd, hps⟩ := HXG.out r rfl
    have HGD := hide1 hgd
    have hy := HY.out
    dsimp only at hy
    unfold okV
    have hlo : LO strE w4 W1.heap.size (.slice xa xn xc) (patsM sp) := by have := hi4.pats; rw [hps] at this; exact this
    have HLO := hide1 (hlo.keep ((Kept.refl w4).alloc #[.int .i64 0, .int .i64 0, .string ⟨#[]⟩] 30))
    have HK5 := hide1 ((gtrans HK1.out hi4.kept).alloc #[.int .i64 0, .int .i64 0, .string ⟨#[]⟩] 30)
    have HF5 := hide1 (HF1.out.keep (hi4.kept.alloc #[.int .i64 0, .int .i64 0, .string ⟨#[]⟩] 30))
    have HI5 := hide1 (hi4.keep ((Kept.refl w4).alloc #[.int .i64 0, .int .i64 0, .string ⟨#[]⟩] 30))
    have HB5 : Hid (FbB (w4.alloc (.cells #[.int .i64 0, .int .i64 0, .string ⟨#[]⟩] 30)) w4.heap.size 0 0 ⟨#[]⟩) := heap_alloc_new w4 _
    have HB15 := hide1 ((hi4.kept.alloc #[.int .i64 0, .int .i64 0, .string ⟨#[]⟩] 30).2.2.2.2 g1 (Array.getElem?_eq_some_iff.1 HB1.out).1 |>.trans HB1.out)
    have e0 : ((0 : Int) != 0) = false := rfl
    have hLI := HLL.out hgd
    have HY2 := hide1 hy
    clear hi4 hgd hps hlo hy
    go_upto_region 3 with fail
    obtain ⟨g5, hg5⟩ : ∃ g, w4.heap.size = g := ⟨_, rfl⟩
    generalize w4.alloc (.cells #[.int .i64 0, .int .i64 0, .string ⟨#[]⟩] 30) = W5 at HK5 HB5 HF5 HI5 HLO HB15 ⊢
    rw [hg5] at HB5 ⊢
    clear hg5
    obtain ⟨⟨c0, c1, c2⟩, -⟩ := HB5.out.facts
    have HLN : Hid (∀ w7, Kept W5 w7 → Calls Tryz.prog 43 #[.agg #[.slice la ln lc, .slice na nn nc, .int .i64 st, .slice pa pn pc], .slice xa xn xc] w7 fun e w' => e = .returned (.string ⟨LT.toArray⟩) ∧ Kept w7 w') := fun w7 hk => HLNS.out w7 xa xn xc W1.heap.size (gtrans HK5.out hk) HGD.out (HLO.out.keep hk)
    go_upto_region 5 with fail
    clear c0 c1 c2
    have kb : W5.cell? ⟨b, 5, none⟩ = some (.slice xa xn xc) := HI5.out.box.cells.1.2.2.2.2.2
    have k0 : W5.cell? ⟨g1, 0, none⟩ = some (.slice la ln lc) := by have := HB15.out; simp [World.cell?, this]
    have k1 : W5.cell? ⟨g1, 1, none⟩ = some (.slice na nn nc) := by have := HB15.out; simp [World.cell?, this]
    have k2 : W5.cell? ⟨g1, 2, none⟩ = some (.int .i64 st) := by have := HB15.out; simp [World.cell?, this]
    have k3 : W5.cell? ⟨g1, 3, none⟩ = some (.slice pa pn pc) := by have := HB15.out; simp [World.cell?, this]
    refine z_region (S := fun w' => Kept W5 w') 6 (by kernel_rfl) (drew_kept _) (fun hHeld => ?_)
    refine tkZ 0 (.agg #[.slice la ln lc, .slice na nn nc, .int .i64 st, .slice pa pn pc]) [6] rfl (fun w' hSw => ?_) ?_
    · have q0 := grown_cell hSw k0; have q1 := grown_cell hSw k1; have q2 := grown_cell hSw k2; have q3 := grown_cell hSw k3
      go_simp
    try simp only [layS]
    refine tkZ 1 (.pointer (some ⟨b, 0, none⟩)) [6] rfl (fun w' hSw => ?_) ?_
    · clear hSw
      go_simp
    try simp only [layS]
    refine tkZ 2 (.pointer (some ⟨b, 0, none⟩)) [6] rfl (fun w' hSw => ?_) ?_
    · clear hSw
      go_simp
    try simp only [layS]
    refine tkZ 3 (.pointer (some ⟨b, 5, none⟩)) [6] rfl (fun w' hSw => ?_) ?_
    · clear hSw
      go_simp
    try simp only [layS]
    refine tkZ 4 (.slice xa xn xc) [6] rfl (fun w' hSw => ?_) ?_
    · have q5 := grown_cell hSw kb
      go_simp
    try simp only [layS]
    refine z_one (i := 5) (by kernel_rfl) (by rfl) rfl (fun K hK => ?_)
    go_simp
    refine (HLN.out _ (drew_kept _)).mono ?_
    rintro e w6 ⟨rfl, hk6⟩
    have HK6 := hide1 (gtrans (drew_kept _) hk6)
    clear hk6
    refine hK.out _ _ HK6.out (fun hHeldN => ?_)
    clear hK K hHeld
    have hHeld := hHeldN
    clear hHeldN
    try simp only [layS]
    refine z_last (by kernel_rfl) (by kernel_rfl) rfl (fun K hK => ?_)
    go_simp
    refine hK.out _ _ ?_
    clear hK K hHeld
    clear kb k0 k1 k2 k3
    have HF6 := hide1 (HF5.out.keep HK6.out)
    have HK7 := hide1 (gtrans HK5.out HK6.out)
    obtain ⟨⟨b0, b1, b2⟩, zb0, zb1, zb2⟩ := HF6.out.facts
    have hl3 := (Array.getElem?_eq_some_iff.1 HF6.out).1
    have hsz : (⟨LT.toArray⟩ : ByteArray).size = LT.length := by show Array.size _ = _; simp
    obtain ⟨TX, hTX⟩ : ∃ TX : ByteArray, (⟨LT.toArray⟩ : ByteArray) = TX := ⟨_, rfl⟩
    have hy := HY2.out
    rw [hTX] at hsz hy ⊢
    rw [← hsz] at hy hLI
    have gI : (TX.size : Int) ≤ 1000000 := by omega
    clear hTX hsz
    by_cases hbig : 65536 < TX.size
    · rw [if_pos hbig] at hy
      have gB : (65536 : Int) < (TX.size : Int) := by omega
      subst hy
      clear hbig hLI
      go_wp2_with fail
      have hs6 := HF6.out.set 2 0 ⟨#[116, 101, 120, 116]⟩
      have hk6 : Kept w (Gs.set3 w6 g3 (.int .i64 2) (.int .i64 0) (.string ⟨#[116, 101, 120, 116]⟩)) := kept_of_kt (S := fun _ => False) (Gs.KT.set3 (HK7.out.kt _) HG3.out (.int .i64 2) (.int .i64 0) (.string ⟨#[116, 101, 120, 116]⟩)) (fun d h => h.elim)
      unfold Gs.set3 at hk6
      have HK8 := hide1 hk6
      have HF8 := hide1 hs6
      clear hk6 hs6
      generalize (((w6.setCell ⟨g3, 0, none⟩ (.int .i64 2)).setCell ⟨g3, 1, none⟩ (.int .i64 0)).setCell ⟨g3, 2, none⟩ (.string ⟨#[116, 101, 120, 116]⟩)) = W8 at HK8 HF8 ⊢
      (try simp only [Exit.inBlock, Exit.then])
      refine bodyPost_ret (wr_results rfl _ _ g3 _ _ _ _ rfl rfl HF8.out) rfl ?_
      exact ⟨rfl, HK8.out⟩
    · rw [if_neg hbig] at hy
      have gB : ¬ ((65536 : Int) < (TX.size : Int)) := by omega
      subst hy
      clear hbig hLI
      go_wp2_with fail
      have hs6 := HF6.out.set 0 0 ⟨#[]⟩
      have hk6 : Kept w (Gs.set3 w6 g3 (.int .i64 0) (.int .i64 0) (.string ⟨#[]⟩)) := kept_of_kt (S := fun _ => False) (Gs.KT.set3 (HK7.out.kt _) HG3.out (.int .i64 0) (.int .i64 0) (.string ⟨#[]⟩)) (fun d h => h.elim)
      unfold Gs.set3 at hk6
      have HK8 := hide1 hk6
      have HF8 := hide1 hs6
      clear hk6 hs6
      generalize (((w6.setCell ⟨g3, 0, none⟩ (.int .i64 0)).setCell ⟨g3, 1, none⟩ (.int .i64 0)).setCell ⟨g3, 2, none⟩ (.string ⟨#[]⟩)) = W8 at HK8 HF8 ⊢
      (try simp only [Exit.inBlock, Exit.then])
      refine bodyPost_ret (wr_results rfl _ _ g3 _ _ _ _ rfl rfl HF8.out) rfl ?_
      exact ⟨rfl, HK8.out⟩
end Gu
end Ex
end Go.Proofs.YtbnchnlogikecaaGreatDoor
