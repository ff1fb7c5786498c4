import Derived.Test.YtbnchnlogikecaaGreatDoorMSpSpec
import Derived.Test.YtbnchnlogikecaaGreatDoorMExKl
import Derived.Test.YtbnchnlogikecaaGreatDoorMGuL
import Derived.Carry
import Derived.Defers
import Derived.Recover
import Derived.Deep.DeepMust
import Derived.BigQuiet
import Derived.Deep.RegionHeld3
import Derived.Test.YtbnchnlogikecaaGreatDoorMGu7
import Derived.Test.YtbnchnlogikecaaGreatDoorMGu6
import Derived.Test.YtbnchnlogikecaaGreatDoorMGt1
import Derived.OwnWalk
import Derived.Test.YtbnchnlogikecaaGreatDoorMExFr0
namespace Go.Proofs.YtbnchnlogikecaaGreatDoor
open Go.RowKit Go.Maps
attribute [local go_sem] Oper.semAt_some
set_option linter.unusedVariables false
set_option linter.unusedSimpArgs false
set_option maxRecDepth 100000
set_option maxHeartbeats 4000000
namespace Ex
namespace Gu
open Sh Gs
theorem newChecker_is (la na pa : Option Addr) (ln lc nn nc pn pc : Nat) (st : Int) (w : World) :
    Calls Tryz.prog 41 #[.agg #[.slice la ln lc, .slice na nn nc, .int .i64 st, .slice pa pn pc]] w fun e w' => ∃ b m, e = .returned (.pointer (some ⟨b, 0, none⟩)) ∧ ChI w w' b (.slice la ln lc) (.slice na nn nc) (.slice pa pn pc) st [] [] m (none, 0, 0) := by
  have hmm := @run_makeMap Tryz.prog
  have HK1 := hide1 ((Kept.refl w).alloc #[.slice la ln lc, .slice na nn nc, .int .i64 st, .slice pa pn pc] 27)
  have HB1 : Hid ((w.alloc (.cells #[.slice la ln lc, .slice na nn nc, .int .i64 st, .slice pa pn pc] 27)).heap[w.heap.size]? = some (.cells #[.slice la ln lc, .slice na nn nc, .int .i64 st, .slice pa pn pc] 27 (0, 0))) := heap_alloc_new w _
  go_enter Tryz.func41, Tryz.ntmps41
  go_upto_region 1 with fail
  obtain ⟨g1, hg1⟩ : ∃ g, w.heap.size = g := ⟨_, rfl⟩
  generalize w.alloc (.cells #[.slice la ln lc, .slice na nn nc, .int .i64 st, .slice pa pn pc] 27) = W1 at HK1 HB1 ⊢
  have HG1 := hide1 hg1
  rw [hg1] at HB1 ⊢
  clear hg1
  have k0 : W1.cell? ⟨g1, 0, none⟩ = some (.slice la ln lc) := by have := HB1.out; simp [World.cell?, this]
  have k1 : W1.cell? ⟨g1, 1, none⟩ = some (.slice na nn nc) := by have := HB1.out; simp [World.cell?, this]
  have k2 : W1.cell? ⟨g1, 2, none⟩ = some (.int .i64 st) := by have := HB1.out; simp [World.cell?, this]
  have k3 : W1.cell? ⟨g1, 3, none⟩ = some (.slice pa pn pc) := by have := HB1.out; simp [World.cell?, this]
  go_wp2_with fail
  go_ret
  refine ⟨W1.heap.size + 1, W1.heap.size, rfl, ?_⟩
  have hk2 : Kept w (W1.alloc (.map #[] 0)) := Kept.of (HK1.out.below.alloc HK1.out.size _)
  refine ⟨hk2.alloc _ _, ?_, by have := HK1.out.size; omega, HK1.out.size, ?_, LO.nil _ _⟩
  · have h := heap_alloc_new (W1.alloc (.map #[] 0)) (.cells #[.slice la ln lc, .slice na nn nc, .int .i64 st, .slice pa pn pc, .map (some W1.heap.size), .slice none 0 0] 96)
    rw [World.size_alloc] at h
    exact h
  · have h : TMap (W1.alloc (.map #[] 0)) W1.heap.size [] := MapS.made (World.ownsMap_made W1 Tryz.prog 9 uniR)
    exact h.same (heap_alloc_old _ _ (by rw [World.size_alloc]; omega))
theorem rulesC_bad : ∀ (i : Nat) (xs : List LxM) (r : CkS), Bad (rulesC i xs r)
  | _, [], _ => bad_ok
  | i, x :: xs, r => by
    rw [rulesC]
    refine Bad.bind ?_ (fun r1 _ => rulesC_bad (i + 1) xs r1)
    unfold ruleC nameC
    refine Bad.bind ?_ (fun r1 _ => ?_)
    · split
      · exact bad_lit (by decide)
      · split
        · exact bad_lit (by decide)
        · exact bad_ok
    · split
      · rename_i h; exact bad_lit h
      · exact bad_ok
theorem namesC_bad : ∀ (i : Nat) (xs : List ByteArray) (r : CkS), Bad (namesC i xs r)
  | _, [], _ => bad_ok
  | i, x :: xs, r => by
    rw [namesC]
    refine Bad.bind ?_ (fun r1 _ => namesC_bad (i + 1) xs r1)
    unfold nameC
    split
    · exact bad_lit (by decide)
    · split
      · exact bad_lit (by decide)
      · exact bad_ok
theorem prodsC_bad {ln nn : Nat} : ∀ (i : Nat) (ps : List ProdM) (a : Int), Bad (prodsC ln nn i ps a)
  | _, [], _ => bad_ok
  | i, p :: ps, a => by
    rw [prodsC]
    refine Bad.bind ?_ (fun _ _ => prodsC_bad (i + 1) ps p.1)
    unfold prodC
    split
    · exact bad_lit (by decide)
    · split
      · exact bad_lit (by decide)
      · split
        · exact bad_lit (by decide)
        · exact bad_ok
theorem sidesC_bad : ∀ (i : Nat) (ps : List ProdM), Bad (sidesC i ps)
  | _, [] => bad_ok
  | i, p :: ps => by
    rw [sidesC]
    split
    · exact bad_lit (by decide)
    · exact sidesC_bad (i + 1) ps
theorem checkC_bad (sp : SpV) : Bad (checkC sp) := by
  unfold checkC
  refine Bad.bind ?_ (fun _ _ => (rulesC_bad _ _ _).bind fun _ _ => (namesC_bad _ _ _).bind fun _ _ => ?_)
  · unfold sizesC
    split
    · exact bad_lit (by decide)
    · split
      · exact bad_lit (by decide)
      · split
        · exact bad_lit (by decide)
        · exact sidesC_bad _ _
  · unfold lastC
    split
    · exact bad_lit (by decide)
    · refine (prodsC_bad _ _ _).bind fun _ _ => ?_
      split
      · exact bad_lit (by decide)
      · exact bad_ok
theorem ChI.set {w0 w : World} {b : Nat} {vl vn vp : Value} {st : Int} {tk ps : List ByteArray} {m : Nat} {xP : SlV} (h : ChI w0 w b vl vn vp st tk ps m xP) {g : Nat} (hn : ¬ Ow b m xP g) (hg : w0.heap.size ≤ g) (o : Nat) (v : Value) : ChI w0 (w.setCell ⟨g, o, none⟩ v) b vl vn vp st tk ps m xP :=
  ⟨kept_of_kt (S := fun _ => False) (KT.wide (h.kept.kt _) (set_kt _ _ _ _) (fun d hd hs => by omega)) (fun d h => h.elim), (Below.heap_setCell _ _ _ _ (fun e => hn (.inl e.symm))).trans h.box, h.lb, h.lm, h.map.same (Below.heap_setCell _ _ _ _ (fun e => hn (.inr (.inl e.symm)))), h.pats.same (fun d hd => Below.heap_setCell _ _ _ _ (fun e => hn (.inr (.inr (by rw [hd]; exact congrArg some e)))))⟩
def OutD (w0 : World) (b : Nat) (vl vn vp : Value) (st : Int) (m : Nat) (x : Except Flt CkS) (e : Ending) (w' : World) : Prop :=
  match x with
  | .ok r => e = .returned okV ∧ ∃ xP', ChI w0 w' b vl vn vp st r.1 r.2 m xP'
  | .error f => e = .returned (fltV f) ∧ Kept w0 w'
theorem caughtC_is (w0 : World) (hP : PowAt w0) (b m : Nat) (la na pa : Option Addr) (ln lc nn nc pn pc : Nat) (sp : SpV) (xP : SlV) (w : World) (h : ChI w0 w b (.slice la ln lc) (.slice na nn nc) (.slice pa pn pc) sp.start [] [] m xP) (hr : SpR w0 (.slice la ln lc) (.slice na nn nc) (.slice pa pn pc) sp) :
    Calls Tryz.prog 39 #[.func (.func 42) #[.pointer (some ⟨b, 0, none⟩)] #[]] w (OutD w0 b (.slice la ln lc) (.slice na nn nc) (.slice pa pn pc) sp.start m (checkC sp)) := by
  have hmf : ∀ (fn : Fn) (first cap : Array Value) (w : World), (Instr.makeFunc fn first cap).run Tryz.prog w = .ok (.func fn first cap) w := fun _ _ _ _ => rfl
  obtain ⟨X, hX⟩ : ∃ X, checkC sp = X := ⟨_, rfl⟩
  rw [hX]
  have HWH : Hid (∀ w xP, ChI w0 w b (.slice la ln lc) (.slice na nn nc) (.slice pa pn pc) sp.start [] [] m xP → Calls Tryz.prog 42 #[.pointer (some ⟨b, 0, none⟩)] w (OutK w0 b (.slice la ln lc) (.slice na nn nc) (.slice pa pn pc) sp.start m xP w X)) := fun w xP h => by
    rw [← hX]
    exact cwhole_is w0 hP b m la na pa ln lc nn nc pn pc sp xP w h hr
  have HFR := hide1 (h.far (Nat.le_refl _))
  have HKS := hide1 h.kept.size
  have HI1 := hide1 (h.keep ((Kept.refl w).alloc #[.int .i64 0, .int .i64 0, .string ⟨#[]⟩] 30))
  have HB1 : Hid (FbB (w.alloc (.cells #[.int .i64 0, .int .i64 0, .string ⟨#[]⟩] 30)) w.heap.size 0 0 ⟨#[]⟩) := heap_alloc_new w _
  clear hX h hr hP
  go_enter_defers Tryz.func39, Tryz.ntmps39
  go_upto_region 1 with fail
  obtain ⟨g, hg⟩ : ∃ g, w.heap.size = g := ⟨_, rfl⟩
  generalize w.alloc (.cells #[.int .i64 0, .int .i64 0, .string ⟨#[]⟩] 30) = W1 at HI1 HB1 ⊢
  rw [hg] at HB1 HFR HKS ⊢
  clear hg
  go_wp2_with fail
  go_at_call 42
  refine (HWH.out _ _ HI1.out).mono ?_
  intro e w2 h2
  rcases X with f | r2
  · obtain ⟨rfl, hf2, hkt2⟩ := h2
    obtain ⟨f0, f1, f2⟩ := f
    have HB2 := hide1 (show FbB w2 g 0 0 ⟨#[]⟩ from (hkt2.2.2.2.2 g (Array.getElem?_eq_some_iff.1 HB1.out).1 HFR.out).trans HB1.out)
    have HF2 := hide1 hf2
    clear hf2 hkt2
    unfold thrown
    go_wp2_with fail
    refine leaves_cons (f := 48) (args := #[.pointer (some ⟨g, 0, none⟩)]) (by simp) (by simp [go_sem]) ?_
    refine (catch_bad g _ _ 0 0 _ ⟨#[]⟩ _ _ HB2.out).mono ?_
    rintro e u' w'' ⟨rfl, rfl, rfl⟩
    have HB3 := hide1 (HB2.out.set f0 f1 f2)
    have hk3 : Kept w0 (Gs.set3 w2 g (.int .i64 f0) (.int .i64 f1) (.string f2)) := kept_of_kt (S := fun _ => False) (Gs.KT.set3 (HF2.out.kt _) HKS.out (.int .i64 f0) (.int .i64 f1) (.string f2)) (fun d h => h.elim)
    unfold Gs.set3 at hk3
    have HF3 := hide1 hk3
    clear hk3
    dsimp only at HB3 HF3 ⊢
    generalize ((w2.setCell ⟨g, 0, none⟩ (.int .i64 f0)).setCell ⟨g, 1, none⟩ (.int .i64 f1)).setCell ⟨g, 2, none⟩ (.string f2) = W3 at HB3 HF3 ⊢
    obtain ⟨⟨c0, c1, c2⟩, -⟩ := HB3.out.facts
    simp [Leaves, settle, results, Tryz.results39, go_sem, c0, c1, c2]
    exact ⟨rfl, HF3.out⟩
  · obtain ⟨rfl, xP2, hi2, hg2⟩ := h2
    have HB2 := hide1 (show FbB w2 g 0 0 ⟨#[]⟩ from (hg2.block (Array.getElem?_eq_some_iff.1 HB1.out).1 HFR.out).trans HB1.out)
    have HF2 := hide1 (hg2.far (Array.getElem?_eq_some_iff.1 HB1.out).1 HFR.out)
    have HI2 := hide1 hi2
    obtain ⟨⟨c0, c1, c2⟩, z0, z1, z2⟩ := HB2.out.facts
    have hlg := (Array.getElem?_eq_some_iff.1 HB2.out).1
    clear hi2 hg2
    go_wp2_with fail
    have HB3 := hide1 (HB2.out.set 0 0 ⟨#[]⟩)
    have HI3 : Hid (ChI w0 (((w2.setCell ⟨g, 0, none⟩ (.int .i64 0)).setCell ⟨g, 1, none⟩ (.int .i64 0)).setCell ⟨g, 2, none⟩ (.string ⟨#[]⟩)) b (.slice la ln lc) (.slice na nn nc) (.slice pa pn pc) sp.start r2.1 r2.2 m xP2) := ((HI2.out.set HF2.out HKS.out 0 (.int .i64 0)).set HF2.out HKS.out 1 (.int .i64 0)).set HF2.out HKS.out 2 (.string ⟨#[]⟩)
    clear c0 c1 c2 z0 z1 z2 hlg
    generalize ((w2.setCell ⟨g, 0, none⟩ (.int .i64 0)).setCell ⟨g, 1, none⟩ (.int .i64 0)).setCell ⟨g, 2, none⟩ (.string ⟨#[]⟩) = W3 at HB3 HI3 ⊢
    refine leaves_cons (f := 48) (args := #[.pointer (some ⟨g, 0, none⟩)]) (by simp) (by simp [go_sem]) ?_
    refine (catch_idle g _).mono ?_
    rintro e u' w'' ⟨rfl, rfl, rfl⟩
    obtain ⟨⟨c0, c1, c2⟩, -⟩ := HB3.out.facts
    simp [Leaves, settle, results, Tryz.results39, go_sem, c0, c1, c2]
    exact ⟨rfl, xP2, HI3.out⟩
def writeM (sp : SpV) : ByteArray × Flt :=
  match checkC sp with
  | .error f => (⟨#[]⟩, f)
  | .ok _ => if 65536 < (linesM sp).length then (⟨#[]⟩, (2, 0, textW)) else (⟨(linesM sp).toArray⟩, (0, 0, ⟨#[]⟩))
theorem wr_results {fn : Func} {p q : Tmp} (h : fn.results = #[.tmp p, .cell q 30]) (tmps : Array Value) (w : World) (g : Nat) (t : ByteArray) (er at_ : Int) (nm : ByteArray)
    (hp : tmps.getD p undef = .string t) (hq : tmps.getD q undef = .pointer (some ⟨g, 0, none⟩)) (hg : FbB w g er at_ nm) :
    (results fn tmps).run Tryz.prog w = .ok (.tuple #[.string t, .agg #[.int .i64 er, .int .i64 at_, .string nm]]) w := by
  have hp2 : tmps[p]?.getD undef = .string t := by simpa using hp
  have hq2 : tmps[q]?.getD undef = .pointer (some ⟨g, 0, none⟩) := by simpa using hq
  have e2 := run_loadVar_row (P := Tryz.prog) w g 30 30 _ (0, 0) _ hg Tryz.underlying30 rfl (by kernel_rfl)
  simp [results, h, hp2, hq2, asAddr, e2]
theorem writeS_is (la na pa : Option Addr) (ln lc nn nc pn pc : Nat) (sp : SpV) (w : World) (hr : SpR w (.slice la ln lc) (.slice na nn nc) (.slice pa pn pc) sp) (hP : PowAt w) :
    Calls Tryz.prog 30 #[.agg #[.slice la ln lc, .slice na nn nc, .int .i64 sp.start, .slice pa pn pc]] w fun e w' => e = .returned (.tuple #[.string (writeM sp).1, fltV (writeM sp).2]) ∧ Kept w w' := by
  have hmf : ∀ (fn : Fn) (first cap : Array Value) (w : World), (Instr.makeFunc fn first cap).run Tryz.prog w = .ok (.func fn first cap) w := fun _ _ _ _ => rfl
  have HK1 := hide1 (((Kept.refl w).alloc #[.slice la ln lc, .slice na nn nc, .int .i64 sp.start, .slice pa pn pc] 27).alloc #[.int .i64 0, .int .i64 0, .string ⟨#[]⟩] 30)
  have HB1 : Hid (((w.alloc (.cells #[.slice la ln lc, .slice na nn nc, .int .i64 sp.start, .slice pa pn pc] 27)).alloc (.cells #[.int .i64 0, .int .i64 0, .string ⟨#[]⟩] 30)).heap[w.heap.size]? = some (.cells #[.slice la ln lc, .slice na nn nc, .int .i64 sp.start, .slice pa pn pc] 27 (0, 0))) := (heap_alloc_old _ _ (by simp)).trans (heap_alloc_new w _)
  have HF1 : Hid (FbB ((w.alloc (.cells #[.slice la ln lc, .slice na nn nc, .int .i64 sp.start, .slice pa pn pc] 27)).alloc (.cells #[.int .i64 0, .int .i64 0, .string ⟨#[]⟩] 30)) (w.heap.size + 1) 0 0 ⟨#[]⟩) := by
    have h := heap_alloc_new (w.alloc (.cells #[.slice la ln lc, .slice na nn nc, .int .i64 sp.start, .slice pa pn pc] 27)) (.cells #[.int .i64 0, .int .i64 0, .string ⟨#[]⟩] 30)
    rw [World.size_alloc] at h
    exact h
  have HR := hide1 hr
  have HP := hide1 hP
  obtain ⟨X, hX⟩ : ∃ X, checkC sp = X := ⟨_, rfl⟩
  obtain ⟨Y, hY⟩ : ∃ Y, writeM sp = Y := ⟨_, rfl⟩
  rw [hY]
  unfold writeM at hY
  rw [hX] at hY
  have HCW : Hid (∀ w0 w1 b m xP, Kept w w0 → ChI w0 w1 b (.slice la ln lc) (.slice na nn nc) (.slice pa pn pc) sp.start [] [] m xP → Calls Tryz.prog 39 #[.func (.func 42) #[.pointer (some ⟨b, 0, none⟩)] #[]] w1 (OutD w0 b (.slice la ln lc) (.slice na nn nc) (.slice pa pn pc) sp.start m X)) := fun w0 w1 b m xP hk h => by
    rw [← hX]
    exact caughtC_is w0 (hP.keep hk) b m la na pa ln lc nn nc pn pc sp xP w1 h (hr.keep hk)
  have HXB : Hid (∀ f, X = .error f → f.1 ≠ 0) := fun f h => checkC_bad sp f (hX.trans h)
  have HXG : Hid (∀ r, X = .ok r → Good sp ∧ r.2 = patsM sp) := fun r h => check_good (hX.trans h)
  have HLNS : Hid (∀ w1 xa xn xc bx, Kept w w1 → Good sp → LO strE w1 bx (.slice xa xn xc) (patsM sp) → Calls Tryz.prog 43 #[.agg #[.slice la ln lc, .slice na nn nc, .int .i64 sp.start, .slice pa pn pc], .slice xa xn xc] w1 fun e w' => e = .returned (.string ⟨(linesM sp).toArray⟩) ∧ Kept w1 w') := fun w1 xa xn xc bx hk hg hx => lines_is la na pa xa ln lc nn nc pn pc xn xc bx sp w1 (hr.keep hk) hg hx
  have HLL : Hid (Good sp → (linesM sp).length ≤ 1000000) := fun h => linesM_len h
  obtain ⟨LT, hLT⟩ : ∃ LT, linesM sp = LT := ⟨_, rfl⟩
  rw [hLT] at hY HLNS HLL
  obtain ⟨st, hst⟩ : ∃ st, sp.start = st := ⟨_, rfl⟩
  rw [hst] at HK1 HB1 HF1 HCW HLNS ⊢
  have HY := hide1 hY
  have HNC := hide1 (newChecker_is la na pa ln lc nn nc pn pc st)
  clear hX hY hr hP hLT hst
  go_enter Tryz.func30, Tryz.ntmps30
  go_upto_region 1 with fail
  obtain ⟨g3, hg3⟩ : ∃ g, w.heap.size + 1 = g := ⟨_, rfl⟩
  rw [hg3] at HF1 ⊢
  obtain ⟨g1, hg1⟩ : ∃ g, w.heap.size = g := ⟨_, rfl⟩
  have HG3 := hide1 (show w.heap.size ≤ g3 by omega)
  generalize (w.alloc (.cells #[.slice la ln lc, .slice na nn nc, .int .i64 st, .slice pa pn pc] 27)).alloc (.cells #[.int .i64 0, .int .i64 0, .string ⟨#[]⟩] 30) = W1 at HK1 HB1 HF1 ⊢
  rw [hg1] at HB1 ⊢
  clear hg1 hg3
  have k0 : W1.cell? ⟨g1, 0, none⟩ = some (.slice la ln lc) := by have := HB1.out; simp [World.cell?, this]
  have k1 : W1.cell? ⟨g1, 1, none⟩ = some (.slice na nn nc) := by have := HB1.out; simp [World.cell?, this]
  have k2 : W1.cell? ⟨g1, 2, none⟩ = some (.int .i64 st) := by have := HB1.out; simp [World.cell?, this]
  have k3 : W1.cell? ⟨g1, 3, none⟩ = some (.slice pa pn pc) := by have := HB1.out; simp [World.cell?, this]
  go_upto_region 2 with (go_at_call 41; go_must (refine (HNC.out W1).mono ?_; rintro e w2 ⟨b, m, rfl, hi2⟩; have HI2 := hide1 hi2; clear hi2))
  clear k0 k1 k2 k3
  go_wp2_with fail
  go_at_call 39
  refine (HCW.out W1 _ b m _ HK1.out HI2.out).mono ?_
  intro e w4 h4
  rcases X with f | r
  · obtain ⟨rfl, hk4⟩ := h4
    have hy := HY.out
    dsimp only at hy
    subst hy
    have hf0 : f.1 ≠ 0 := HXB.out _ rfl
    obtain ⟨f0, f1, f2⟩ := f
    dsimp only at hf0
    unfold fltV
    dsimp only
    have e0 : (f0 != 0) = true := by simpa using hf0
    have HK5 := hide1 ((gtrans HK1.out hk4).alloc #[.int .i64 f0, .int .i64 f1, .string f2] 30)
    have HB5 : Hid (FbB (w4.alloc (.cells #[.int .i64 f0, .int .i64 f1, .string f2] 30)) w4.heap.size f0 f1 f2) := heap_alloc_new w4 _
    have HF5 := hide1 (HF1.out.keep (hk4.alloc #[.int .i64 f0, .int .i64 f1, .string f2] 30))
    have HNE := hide1 (show g3 ≠ w4.heap.size from fun e => by have h1 := (Array.getElem?_eq_some_iff.1 (HF1.out.keep hk4)).1; omega)
    clear hk4 hf0
    go_upto_region 3 with fail
    obtain ⟨g5, hg5⟩ : ∃ g, w4.heap.size = g := ⟨_, rfl⟩
    generalize w4.alloc (.cells #[.int .i64 f0, .int .i64 f1, .string f2] 30) = W5 at HK5 HB5 HF5 ⊢
    rw [hg5] at HB5 HNE ⊢
    clear hg5
    obtain ⟨⟨c0, c1, c2⟩, -⟩ := HB5.out.facts
    go_upto_region 4 with fail
    obtain ⟨⟨b0, b1, b2⟩, zb0, zb1, zb2⟩ := HF5.out.facts
    have hne := HNE.out
    have hne' : g5 ≠ g3 := fun e => hne e.symm
    have hl3 := (Array.getElem?_eq_some_iff.1 HF5.out).1
    go_region
    have hs6 := HF5.out.set f0 f1 f2
    have hk6 : Kept w (Gs.set3 W5 g3 (.int .i64 f0) (.int .i64 f1) (.string f2)) := kept_of_kt (S := fun _ => False) (Gs.KT.set3 (HK5.out.kt _) HG3.out (.int .i64 f0) (.int .i64 f1) (.string f2)) (fun d h => h.elim)
    unfold Gs.set3 at hk6
    have HK6 := hide1 (gtrans hk6 (drew_kept _))
    have HF6 := hide1 (hs6.keep (drew_kept _))
    clear hk6 hs6
    generalize (((W5.setCell ⟨g3, 0, none⟩ (.int .i64 f0)).setCell ⟨g3, 1, none⟩ (.int .i64 f1)).setCell ⟨g3, 2, none⟩ (.string f2)).drew = W6 at HK6 HF6 ⊢
    go_wp2_with fail
    (try simp only [Exit.inBlock, Exit.then])
    refine bodyPost_ret (wr_results rfl _ _ g3 _ _ _ _ rfl rfl HF6.out) rfl ?_
    exact ⟨rfl, HK6.out⟩
  · obtain ⟨rfl, ⟨xa, xn, xc⟩, hi4⟩ := h4
    obtain ⟨hgd, hps⟩ := HXG.out r rfl
    have HGD := hide1 hgd
    have hy := HY.out
    dsimp only at hy
    unfold okV
    have hlo : LO strE w4 W1.heap.size (.slice xa xn xc) (patsM sp) := by have := hi4.pats; rw [hps] at this; exact this
    have HLO := hide1 (hlo.keep ((Kept.refl w4).alloc #[.int .i64 0, .int .i64 0, .string ⟨#[]⟩] 30))
    have HK5 := hide1 ((gtrans HK1.out hi4.kept).alloc #[.int .i64 0, .int .i64 0, .string ⟨#[]⟩] 30)
    have HF5 := hide1 (HF1.out.keep (hi4.kept.alloc #[.int .i64 0, .int .i64 0, .string ⟨#[]⟩] 30))
    have HI5 := hide1 (hi4.keep ((Kept.refl w4).alloc #[.int .i64 0, .int .i64 0, .string ⟨#[]⟩] 30))
    have HB5 : Hid (FbB (w4.alloc (.cells #[.int .i64 0, .int .i64 0, .string ⟨#[]⟩] 30)) w4.heap.size 0 0 ⟨#[]⟩) := heap_alloc_new w4 _
    have HB15 := hide1 ((hi4.kept.alloc #[.int .i64 0, .int .i64 0, .string ⟨#[]⟩] 30).2.2.2.2 g1 (Array.getElem?_eq_some_iff.1 HB1.out).1 |>.trans HB1.out)
    have e0 : ((0 : Int) != 0) = false := rfl
    have hLI := HLL.out hgd
    have HY2 := hide1 hy
    clear hi4 hgd hps hlo hy
    go_upto_region 3 with fail
    obtain ⟨g5, hg5⟩ : ∃ g, w4.heap.size = g := ⟨_, rfl⟩
    generalize w4.alloc (.cells #[.int .i64 0, .int .i64 0, .string ⟨#[]⟩] 30) = W5 at HK5 HB5 HF5 HI5 HLO HB15 ⊢
    rw [hg5] at HB5 ⊢
    clear hg5
    obtain ⟨⟨c0, c1, c2⟩, -⟩ := HB5.out.facts
    have HLN : Hid (∀ w7, Kept W5 w7 → Calls Tryz.prog 43 #[.agg #[.slice la ln lc, .slice na nn nc, .int .i64 st, .slice pa pn pc], .slice xa xn xc] w7 fun e w' => e = .returned (.string ⟨LT.toArray⟩) ∧ Kept w7 w') := fun w7 hk => HLNS.out w7 xa xn xc W1.heap.size (gtrans HK5.out hk) HGD.out (HLO.out.keep hk)
    go_upto_region 5 with fail
    clear c0 c1 c2
    have kb : W5.cell? ⟨b, 5, none⟩ = some (.slice xa xn xc) := HI5.out.box.cells.1.2.2.2.2.2
    have k0 : W5.cell? ⟨g1, 0, none⟩ = some (.slice la ln lc) := by have := HB15.out; simp [World.cell?, this]
    have k1 : W5.cell? ⟨g1, 1, none⟩ = some (.slice na nn nc) := by have := HB15.out; simp [World.cell?, this]
    have k2 : W5.cell? ⟨g1, 2, none⟩ = some (.int .i64 st) := by have := HB15.out; simp [World.cell?, this]
    have k3 : W5.cell? ⟨g1, 3, none⟩ = some (.slice pa pn pc) := by have := HB15.out; simp [World.cell?, this]
    refine z_region (S := fun w' => Kept W5 w') 6 (by kernel_rfl) (drew_kept _) (fun hHeld => ?_)
    refine tkZ 0 (.agg #[.slice la ln lc, .slice na nn nc, .int .i64 st, .slice pa pn pc]) [6] rfl (fun w' hSw => ?_) ?_
    · have q0 := grown_cell hSw k0; have q1 := grown_cell hSw k1; have q2 := grown_cell hSw k2; have q3 := grown_cell hSw k3
      go_simp
    try simp only [layS]
    refine tkZ 1 (.pointer (some ⟨b, 0, none⟩)) [6] rfl (fun w' hSw => ?_) ?_
    · clear hSw
      go_simp
    try simp only [layS]
    refine tkZ 2 (.pointer (some ⟨b, 0, none⟩)) [6] rfl (fun w' hSw => ?_) ?_
    · clear hSw
      go_simp
    try simp only [layS]
    refine tkZ 3 (.pointer (some ⟨b, 5, none⟩)) [6] rfl (fun w' hSw => ?_) ?_
    · clear hSw
      go_simp
    try simp only [layS]
    refine tkZ 4 (.slice xa xn xc) [6] rfl (fun w' hSw => ?_) ?_
    · have q5 := grown_cell hSw kb
      go_simp
    try simp only [layS]
    refine z_one (i := 5) (by kernel_rfl) (by rfl) rfl (fun K hK => ?_)
    go_simp
    refine (HLN.out _ (drew_kept _)).mono ?_
    rintro e w6 ⟨rfl, hk6⟩
    have HK6 := hide1 (gtrans (drew_kept _) hk6)
    clear hk6
    refine hK.out _ _ HK6.out (fun hHeldN => ?_)
    clear hK K hHeld
    have hHeld := hHeldN
    clear hHeldN
    try simp only [layS]
    refine z_last (by kernel_rfl) (by kernel_rfl) rfl (fun K hK => ?_)
    go_simp
    refine hK.out _ _ ?_
    clear hK K hHeld
    clear kb k0 k1 k2 k3
    have HF6 := hide1 (HF5.out.keep HK6.out)
    have HK7 := hide1 (gtrans HK5.out HK6.out)
    obtain ⟨⟨b0, b1, b2⟩, zb0, zb1, zb2⟩ := HF6.out.facts
    have hl3 := (Array.getElem?_eq_some_iff.1 HF6.out).1
    have hsz : (⟨LT.toArray⟩ : ByteArray).size = LT.length := by show Array.size _ = _; simp
    obtain ⟨TX, hTX⟩ : ∃ TX : ByteArray, (⟨LT.toArray⟩ : ByteArray) = TX := ⟨_, rfl⟩
    have hy := HY2.out
    rw [hTX] at hsz hy ⊢
    rw [← hsz] at hy hLI
    have gI : (TX.size : Int) ≤ 1000000 := by omega
    clear hTX hsz
    by_cases hbig : 65536 < TX.size
    · rw [if_pos hbig] at hy
      have gB : (65536 : Int) < (TX.size : Int) := by omega
      subst hy
      clear hbig hLI
      go_wp2_with fail
      have hs6 := HF6.out.set 2 0 ⟨#[116, 101, 120, 116]⟩
      have hk6 : Kept w (Gs.set3 w6 g3 (.int .i64 2) (.int .i64 0) (.string ⟨#[116, 101, 120, 116]⟩)) := kept_of_kt (S := fun _ => False) (Gs.KT.set3 (HK7.out.kt _) HG3.out (.int .i64 2) (.int .i64 0) (.string ⟨#[116, 101, 120, 116]⟩)) (fun d h => h.elim)
      unfold Gs.set3 at hk6
      have HK8 := hide1 hk6
      have HF8 := hide1 hs6
      clear hk6 hs6
      generalize (((w6.setCell ⟨g3, 0, none⟩ (.int .i64 2)).setCell ⟨g3, 1, none⟩ (.int .i64 0)).setCell ⟨g3, 2, none⟩ (.string ⟨#[116, 101, 120, 116]⟩)) = W8 at HK8 HF8 ⊢
      (try simp only [Exit.inBlock, Exit.then])
      refine bodyPost_ret (wr_results rfl _ _ g3 _ _ _ _ rfl rfl HF8.out) rfl ?_
      exact ⟨rfl, HK8.out⟩
    · rw [if_neg hbig] at hy
      have gB : ¬ ((65536 : Int) < (TX.size : Int)) := by omega
      subst hy
      clear hbig hLI
      go_wp2_with fail
      have hs6 := HF6.out.set 0 0 ⟨#[]⟩
      have hk6 : Kept w (Gs.set3 w6 g3 (.int .i64 0) (.int .i64 0) (.string ⟨#[]⟩)) := kept_of_kt (S := fun _ => False) (Gs.KT.set3 (HK7.out.kt _) HG3.out (.int .i64 0) (.int .i64 0) (.string ⟨#[]⟩)) (fun d h => h.elim)
      unfold Gs.set3 at hk6
      have HK8 := hide1 hk6
      have HF8 := hide1 hs6
      clear hk6 hs6
      generalize (((w6.setCell ⟨g3, 0, none⟩ (.int .i64 0)).setCell ⟨g3, 1, none⟩ (.int .i64 0)).setCell ⟨g3, 2, none⟩ (.string ⟨#[]⟩)) = W8 at HK8 HF8 ⊢
      (try simp only [Exit.inBlock, Exit.then])
      refine bodyPost_ret (wr_results rfl _ _ g3 _ _ _ _ rfl rfl HF8.out) rfl ?_
      exact ⟨rfl, HK8.out⟩
end Gu
end Ex
end Go.Proofs.YtbnchnlogikecaaGreatDoor
namespace Go.Proofs.YtbnchnlogikecaaGreatDoor
open Go.RowKit
set_option linter.unusedVariables false
set_option maxRecDepth 100000
namespace Ex
namespace Gu
open Sh Gs
def text0 : ByteArray := ⟨#[65, 61, 120, 124, 59, 116, 111, 107, 101, 110, 32, 120, 61, 47, 97, 47, 59, 115, 116, 97, 114, 116, 32, 65, 59]⟩
def out0 : ByteArray := ⟨#[116, 111, 107, 101, 110, 32, 120, 32, 61, 32, 47, 97, 47, 59, 10, 115, 116, 97, 114, 116, 32, 65, 59, 10, 65, 32, 61, 32, 120, 32, 124, 59, 10]⟩
def spec0 (p : Pat) : SpV := { lex := [(⟨#[120]⟩, false, p)], nam := [⟨#[65]⟩], start := 0, prd := [(0, [(1, 0)]), (0, [])] }
theorem head_parse : (match parseG text0 with | .ok s => some (spv s) | .error _ => none) = some (spec0 (parseM ⟨#[97]⟩).1) := by kernel_rfl
end Gu
end Ex
end Go.Proofs.YtbnchnlogikecaaGreatDoor
namespace Go.Proofs.YtbnchnlogikecaaGreatDoor
open Go.RowKit
attribute [local go_sem] Oper.semAt_some
set_option linter.unusedVariables false
set_option linter.unusedSimpArgs false
set_option maxRecDepth 100000
set_option maxHeartbeats 2000000
namespace Ex
namespace Gu
open Sh Gs
theorem PrintS_is (la na pa : Option Addr) (ln lc nn nc pn pc : Nat) (sp : SpV) (w : World) (hr : SpR w (.slice la ln lc) (.slice na nn nc) (.slice pa pn pc) sp) (hP : PowAt w) :
    Calls Tryz.prog 13 #[.agg #[.slice la ln lc, .slice na nn nc, .int .i64 sp.start, .slice pa pn pc]] w fun e w' => e = .returned (.tuple #[.string (writeM sp).1, .int .i64 (writeM sp).2.1]) ∧ Kept w w' := by
  obtain ⟨⟨tx, f0, f1, f2⟩, hY⟩ : ∃ Y, writeM sp = Y := ⟨_, rfl⟩
  have HK1 := hide1 ((Kept.refl w).alloc #[.slice la ln lc, .slice na nn nc, .int .i64 sp.start, .slice pa pn pc] 27)
  have HB1 : Hid ((w.alloc (.cells #[.slice la ln lc, .slice na nn nc, .int .i64 sp.start, .slice pa pn pc] 27)).heap[w.heap.size]? = some (.cells #[.slice la ln lc, .slice na nn nc, .int .i64 sp.start, .slice pa pn pc] 27 (0, 0))) := heap_alloc_new w _
  have HWR := hide1 (fun w1 (hk : Kept w w1) => writeS_is la na pa ln lc nn nc pn pc sp w1 (hr.keep hk) (hP.keep hk))
  rw [hY] at HWR ⊢
  unfold fltV at HWR
  dsimp only at HWR ⊢
  obtain ⟨st, hst⟩ : ∃ st, sp.start = st := ⟨_, rfl⟩
  rw [hst] at HK1 HB1 HWR ⊢
  clear hY hr hP hst
  go_enter Tryz.func13, Tryz.ntmps13
  go_upto_region 1 with fail
  obtain ⟨g1, hg1⟩ : ∃ g, w.heap.size = g := ⟨_, rfl⟩
  generalize w.alloc (.cells #[.slice la ln lc, .slice na nn nc, .int .i64 st, .slice pa pn pc] 27) = W1 at HK1 HB1 ⊢
  rw [hg1] at HB1 ⊢
  clear hg1
  have k0 : W1.cell? ⟨g1, 0, none⟩ = some (.slice la ln lc) := by have := HB1.out; simp [World.cell?, this]
  have k1 : W1.cell? ⟨g1, 1, none⟩ = some (.slice na nn nc) := by have := HB1.out; simp [World.cell?, this]
  have k2 : W1.cell? ⟨g1, 2, none⟩ = some (.int .i64 st) := by have := HB1.out; simp [World.cell?, this]
  have k3 : W1.cell? ⟨g1, 3, none⟩ = some (.slice pa pn pc) := by have := HB1.out; simp [World.cell?, this]
  go_upto_region 2 with (go_at_call 30; go_must (refine (HWR.out W1 HK1.out).mono ?_; rintro e w2 ⟨rfl, hk2⟩; have HK2 := hide1 ((gtrans HK1.out hk2).alloc #[.int .i64 f0, .int .i64 f1, .string f2] 30); have HB2 : Hid (FbB (w2.alloc (.cells #[.int .i64 f0, .int .i64 f1, .string f2] 30)) w2.heap.size f0 f1 f2) := heap_alloc_new w2 _; clear hk2))
  obtain ⟨g5, hg5⟩ : ∃ g, w2.heap.size = g := ⟨_, rfl⟩
  generalize w2.alloc (.cells #[.int .i64 f0, .int .i64 f1, .string f2] 30) = W2 at HK2 HB2 ⊢
  rw [hg5] at HB2 ⊢
  clear hg5
  obtain ⟨⟨c0, c1, c2⟩, -⟩ := HB2.out.facts
  go_wp2_with (go_quiet (fail))
  go_ret2
  exact ⟨rfl, gtrans HK2.out (drewN_kept _ _)⟩
theorem flt_results {fn : Func} {q : Tmp} (h : fn.results = #[.cell q 30]) (tmps : Array Value) (w : World) (g : Nat) (er at_ : Int) (nm : ByteArray)
    (hq : tmps.getD q undef = .pointer (some ⟨g, 0, none⟩)) (hg : FbB w g er at_ nm) :
    (results fn tmps).run Tryz.prog w = .ok (.agg #[.int .i64 er, .int .i64 at_, .string nm]) w := by
  have hq2 : tmps[q]?.getD undef = .pointer (some ⟨g, 0, none⟩) := by simpa using hq
  have e2 := run_loadVar_row (P := Tryz.prog) w g 30 30 _ (0, 0) _ hg Tryz.underlying30 rfl (by kernel_rfl)
  simp [results, h, hq2, asAddr, e2]
theorem lo_slice {α β : Type} {E : ElK α} {w : World} {base sz : Nat} {v : Value} {l : List α} {xs : List β} {El : List Value → β → Prop} (h : LO E w base v l) (hsz : E.sz = sz) (hl : l.length = xs.length) (hlen : l.length ≤ 17592186044416) (he : ∀ (i : Nat) (x : α) (y : β), l[i]? = some x → xs[i]? = some y → El (E.enc x) y) : SliceOf w sz El v xs := by
  subst hsz
  obtain ⟨a, c, rfl⟩ := h.form
  refine ⟨a, c, by rw [← hl], by rw [← hl]; exact LO.cap h, by omega, ?_⟩
  by_cases hx : xs = []
  · exact .inl hx
  · have hne : l ≠ [] := fun e => hx (by rw [e] at hl; exact List.eq_nil_of_length_eq_zero hl.symm)
    obtain ⟨g, e⟩ := LO.some h hne
    subst e
    refine .inr ⟨g, 0, rfl, (h.lt' g rfl).2, fun i y hi => ?_⟩
    have hil : i < l.length := by rw [hl]; exact (List.getElem?_eq_some_iff.1 hi).1
    refine ⟨E.enc (l[i]'hil), E.len _, fun j u hj => ?_, he i _ y (List.getElem?_eq_getElem hil) hi⟩
    rw [Nat.zero_add]
    exact LO.cell h (List.getElem?_eq_getElem hil) hj
theorem SpO.rd {base : Nat} {w : World} {v : Value} {s : RSt} (h : SpO base w v s) (h1 : s.lex.length ≤ 17592186044416) (h2 : s.nam.length ≤ 17592186044416) (h3 : s.prd.length ≤ 17592186044416) (h4 : ∀ ys ∈ s.sds, ys.length ≤ 17592186044416) (h5 : ∀ x ∈ s.lex, x.1.size ≤ 200000000000000) (h6 : ∀ x ∈ s.nam, x.size ≤ 200000000000000) :
    ∃ vl vn vp, v = .agg #[vl, vn, .int .i64 (spv s).start, vp] ∧ SpR w vl vn vp (spv s) := by
  obtain ⟨xL, xN, xP, its, ps, ρ, rfl, hL, hLR, hN, hPp, hPR, _⟩ := h
  refine ⟨_, _, _, rfl, ?_, ?_, ?_⟩
  · refine lo_slice (E := lexE) hL rfl hLR.1 (by rw [hLR.1]; exact h1) (fun i x y hx hy => ?_)
    obtain ⟨_, F, hF1, _, hF⟩ := hLR
    obtain ⟨sv, h7, h8⟩ := hF i y hy
    rw [hx] at h7
    cases h7
    exact ⟨val sv, rfl, h5 y (List.mem_of_getElem? hy), KidsO.at_ _ (fun d hd => (hF1 i d hd).2) _ _ h8⟩
  · refine lo_slice (E := strE) hN rfl rfl h2 (fun i x y hx hy => ?_)
    have e : some x = some y := hx.symm.trans hy
    cases e
    exact ⟨rfl, h6 x (List.mem_of_getElem? hx)⟩
  · have hz : (s.prd.zip s.sds).length = s.prd.length := by rw [List.length_zip, hPR.lens, Nat.min_self]
    refine lo_slice (E := prdE) hPp rfl (by show _ = (s.prd.zip s.sds).length; rw [hz, hPR.len]) (by rw [hPR.len]; exact h3) (fun i x y hx hy => ?_)
    have hy2 : (s.prd.zip s.sds)[i]? = some y := hy
    obtain ⟨hy3, hy4⟩ := List.getElem?_zip_eq_some.1 hy2
    refine ⟨val x.2, ?_, lo_slice (E := symE) (hPR.side i x y.2 hx hy4) rfl rfl (h4 _ (List.mem_of_getElem? hy4)) (fun j a b ha hb => by rw [ha] at hb; cases hb; rfl)⟩
    have := hPR.left i x hx
    rw [hy3] at this
    rw [Option.some.inj this]
    rfl
end Gu
end Ex
end Go.Proofs.YtbnchnlogikecaaGreatDoor
namespace Go.Proofs.YtbnchnlogikecaaGreatDoor
open Go.RowKit
attribute [local go_sem] Oper.semAt_some
set_option linter.unusedVariables false
namespace Ex
namespace Gu
open Sh Gs
def SzV (sp : SpV) : Prop := sp.lex.length * 88 ≤ 140737488351232 ∧ sp.nam.length * 16 ≤ 140737488351232 ∧ sp.prd.length * 32 ≤ 140737488351232 ∧ ∀ p ∈ sp.prd, p.2.length * 16 ≤ 140737488351232
theorem lo_apartT {α β : Type} {E : ElK α} {F : ElK β} {w : World} {b1 b2 : Nat} {v1 v2 : Value} {l1 : List α} {l2 : List β} (h1 : LO E w b1 v1 l1) (h2 : LO F w b2 v2 l2) (hT : E.T ≠ F.T) : ∀ d, v1.ownBlock = some d → v2.ownBlock ≠ some d := fun d hd he => by
  obtain ⟨c1, e1⟩ := LO.type h1 hd
  obtain ⟨c2, e2⟩ := LO.type h2 he
  rw [e1] at e2
  injection e2 with e2
  injection e2 with _ e3 _
  exact hT e3
theorem lo_othT {α β : Type} {E : ElK α} {F : ElK β} {w w' : World} {b1 b2 : Nat} {v1 v2 : Value} {l1 : List α} {l2 : List β} (h1 : LO E w b1 v1 l1) (h2 : LO F w b2 v2 l2) (hT : E.T ≠ F.T) (hg : w.grownBy w' v2.ownBlock) : LO E w' b1 v1 l1 :=
  h1.same (fun d hd => hg.block d (h1.lt' d hd).2 (fun e => lo_apartT h1 h2 hT d hd e.symm))
def FarS (n0 B : Nat) (w : World) (xL xN xP : SlV) (d : Nat) : Prop := (d < n0 ∨ B ≤ d) ∧ d < w.heap.size ∧ (val xL).ownBlock ≠ some d ∧ (val xN).ownBlock ≠ some d ∧ (val xP).ownBlock ≠ some d
structure TwJ (n0 B : Nat) (w : World) (xL xN xP : SlV) (its : List Gs.LexM) (qs : List PrdM) (ls : List LxM) (ns : List ByteArray) (ps : List ProdM) : Prop where
  lex : LO lexE w B (val xL) its
  nam : LO strE w B (val xN) ns
  prd : LO prdE w B (val xP) qs
  ll : its.length = ls.length
  lr : ∀ (i : Nat) (x : LxM), ls[i]? = some x → ∃ sv : SlV, its[i]? = some (x.1, x.2.1, kind x.2.2.2, from_ x.2.2.2, to_ x.2.2.2, min_ x.2.2.2, max_ x.2.2.2, sv) ∧ KidsAt (FarS n0 B w xL xN xP) w x.2.2.1 (kids x.2.2.2) (val sv)
  pl : qs.length = ps.length
  pr : ∀ (i : Nat) (p : ProdM), ps[i]? = some p → ∃ sv : SlV, qs[i]? = some (p.1, sv) ∧ LO symE w B (val sv) p.2
theorem TwJ.nil (n0 B : Nat) (w : World) : TwJ n0 B w (none, 0, 0) (none, 0, 0) (none, 0, 0) [] [] [] [] [] := ⟨LO.nil _ _, LO.nil _ _, LO.nil _ _, rfl, fun i x h => by simp at h, rfl, fun i x h => by simp at h⟩
section
variable {n0 B : Nat} {w w' : World} {xL xN xP : SlV} {its : List Gs.LexM} {qs : List PrdM} {ls : List LxM} {ns : List ByteArray} {ps : List ProdM}
theorem TwJ.keep (h : TwJ n0 B w xL xN xP its qs ls ns ps) (hk : Kept w w') : TwJ n0 B w' xL xN xP its qs ls ns ps :=
  ⟨h.lex.keep hk, h.nam.keep hk, h.prd.keep hk, h.ll, fun i x hx => by
    obtain ⟨sv, a, b⟩ := h.lr i x hx
    exact ⟨sv, a, KidsAt.mono (hk.holds _) (fun d hd => ⟨hd.1, Nat.lt_of_lt_of_le hd.2.1 hk.size, hd.2.2⟩) _ _ _ b⟩, h.pl, fun i p hp => by
    obtain ⟨sv, a, b⟩ := h.pr i p hp
    exact ⟨sv, a, b.keep hk⟩⟩
theorem TwJ.set (h : TwJ n0 B w xL xN xP its qs ls ns ps) {g o : Nat} {u : Value} (h1 : n0 ≤ g) (h2 : g < B) : TwJ n0 B (w.setCell ⟨g, o, none⟩ u) xL xN xP its qs ls ns ps := by
  have hb : ∀ d, d ≠ g → (w.setCell ⟨g, o, none⟩ u).heap[d]? = w.heap[d]? := fun d hd => Below.heap_setCell _ _ _ _ hd
  have key : ∀ {α : Type} {E : ElK α} {v : Value} {l : List α}, LO E w B v l → LO E (w.setCell ⟨g, o, none⟩ u) B v l := fun hl => hl.same (fun d hd => hb d (by have := (hl.lt' d hd).1; omega))
  refine ⟨key h.lex, key h.nam, key h.prd, h.ll, fun i x hx => ?_, h.pl, fun i p hp => ?_⟩
  · obtain ⟨sv, a, b⟩ := h.lr i x hx
    exact ⟨sv, a, KidsAt.mono (fun b o v hb hc => (set_other (.inl (by have := hb.1; omega))).trans hc) (fun d hd => ⟨hd.1, by simp [World.setCell]; exact hd.2.1, hd.2.2⟩) _ _ _ b⟩
  · obtain ⟨sv, a, b⟩ := h.pr i p hp
    exact ⟨sv, a, key b⟩
theorem far_more {o : Option Nat} {yL yN yP : SlV} (hg : w.grownBy w' o) (ho : ∀ d, FarS n0 B w xL xN xP d → o ≠ some d) (hL : ∀ d, (val yL).ownBlock = some d → (val xL).ownBlock = some d ∨ w.heap.size ≤ d) (hN : ∀ d, (val yN).ownBlock = some d → (val xN).ownBlock = some d ∨ w.heap.size ≤ d) (hP : ∀ d, (val yP).ownBlock = some d → (val xP).ownBlock = some d ∨ w.heap.size ≤ d) {n : Nat} {l : List (PatN n)} {v : Value} (h : KidsAt (FarS n0 B w xL xN xP) w n l v) : KidsAt (FarS n0 B w' yL yN yP) w' n l v :=
  KidsAt.mono (fun b o' x hb hc => hg.cell hc (fun e => ho b hb e.symm)) (fun d hd => ⟨hd.1, Nat.lt_of_lt_of_le hd.2.1 hg.size, fun e => by
    rcases hL d e with h | h
    · exact hd.2.2.1 h
    · have := hd.2.1; omega, fun e => by
    rcases hN d e with h | h
    · exact hd.2.2.2.1 h
    · have := hd.2.1; omega, fun e => by
    rcases hP d e with h | h
    · exact hd.2.2.2.2 h
    · have := hd.2.1; omega⟩) _ _ _ h
theorem TwJ.addL (h : TwJ n0 B w xL xN xP its qs ls ns ps) {g m cap : Nat} {x : LxM} {sv : SlV} (hk : KidsAt (FarS n0 B w xL xN xP) w x.2.2.1 (kids x.2.2.2) (val sv))
    (ho : LO lexE w' B (.slice (some ⟨g, 0, none⟩) m cap) (its ++ [(x.1, x.2.1, kind x.2.2.2, from_ x.2.2.2, to_ x.2.2.2, min_ x.2.2.2, max_ x.2.2.2, sv)])) (hg : w.grownBy w' (val xL).ownBlock) (hor : (val xL).ownBlock = some g ∨ g = w.heap.size) :
    TwJ n0 B w' (some ⟨g, 0, none⟩, m, cap) xN xP (its ++ [(x.1, x.2.1, kind x.2.2.2, from_ x.2.2.2, to_ x.2.2.2, min_ x.2.2.2, max_ x.2.2.2, sv)]) qs (ls ++ [x]) ns ps := by
  have hmv : ∀ {n : Nat} {l : List (PatN n)} {v : Value}, KidsAt (FarS n0 B w xL xN xP) w n l v → KidsAt (FarS n0 B w' (some ⟨g, 0, none⟩, m, cap) xN xP) w' n l v := fun hk => far_more hg (fun d hd => hd.2.2.1) (fun d hd => by
    have e : g = d := Option.some.inj hd
    subst e
    rcases hor with h | h
    · exact .inl h
    · exact .inr (by omega)) (fun d hd => .inl hd) (fun d hd => .inl hd) hk
  refine ⟨ho, lo_othT h.nam h.lex (by decide) hg, lo_othT h.prd h.lex (by decide) hg, by rw [List.length_append, List.length_append, h.ll]; rfl, fun i y hy => ?_, h.pl, fun i p hp => ?_⟩
  · rcases get_snoc hy with hy | ⟨hi, rfl⟩
    · obtain ⟨sv', a, b⟩ := h.lr i y hy
      refine ⟨sv', ?_, hmv b⟩
      rw [List.getElem?_append_left (List.getElem?_eq_some_iff.1 a).1]
      exact a
    · subst hi
      exact ⟨sv, by rw [List.getElem?_append_right (by rw [h.ll]; exact Nat.le_refl _), h.ll, Nat.sub_self]; rfl, hmv hk⟩
  · obtain ⟨sv', a, b⟩ := h.pr i p hp
    exact ⟨sv', a, lo_othT b h.lex (by decide) hg⟩
theorem TwJ.addN (h : TwJ n0 B w xL xN xP its qs ls ns ps) {a' : Option Addr} {m cap : Nat} {ms : List ByteArray} (ho : LO strE w' B (.slice a' m cap) ms) (hg : w.grownBy w' (val xN).ownBlock) (hor : (Value.slice a' m cap).ownBlock = (val xN).ownBlock ∨ (Value.slice a' m cap).ownBlock = some w.heap.size) :
    TwJ n0 B w' xL (a', m, cap) xP its qs ls ms ps := by
  refine ⟨lo_othT h.lex h.nam (by decide) hg, ho, lo_othT h.prd h.nam (by decide) hg, h.ll, fun i y hy => ?_, h.pl, fun i p hp => ?_⟩
  · obtain ⟨sv, a, b⟩ := h.lr i y hy
    refine ⟨sv, a, far_more hg (fun d hd => hd.2.2.2.1) (fun d hd => .inl hd) (fun d hd => ?_) (fun d hd => .inl hd) b⟩
    rcases hor with e | e
    · exact .inl (e ▸ hd)
    · have hd' : (Value.slice a' m cap).ownBlock = some d := hd
      rw [e] at hd'
      exact .inr (by have := Option.some.inj hd'; omega)
  · obtain ⟨sv, a, b⟩ := h.pr i p hp
    exact ⟨sv, a, lo_othT b h.nam (by decide) hg⟩
theorem TwJ.addP (h : TwJ n0 B w xL xN xP its qs ls ns ps) {g m cap : Nat} {p : ProdM} {sv : SlV} (hk : LO symE w B (val sv) p.2)
    (ho : LO prdE w' B (.slice (some ⟨g, 0, none⟩) m cap) (qs ++ [(p.1, sv)])) (hg : w.grownBy w' (val xP).ownBlock) (hor : (val xP).ownBlock = some g ∨ g = w.heap.size) :
    TwJ n0 B w' xL xN (some ⟨g, 0, none⟩, m, cap) its (qs ++ [(p.1, sv)]) ls ns (ps ++ [p]) := by
  refine ⟨lo_othT h.lex h.prd (by decide) hg, lo_othT h.nam h.prd (by decide) hg, ho, h.ll, fun i y hy => ?_, by rw [List.length_append, List.length_append, h.pl]; rfl, fun i q hq => ?_⟩
  · obtain ⟨sv', a, b⟩ := h.lr i y hy
    refine ⟨sv', a, far_more hg (fun d hd => hd.2.2.2.2) (fun d hd => .inl hd) (fun d hd => .inl hd) (fun d hd => ?_) b⟩
    have e : g = d := Option.some.inj hd
    subst e
    rcases hor with h | h
    · exact .inl h
    · exact .inr (by omega)
  · rcases get_snoc hq with hq | ⟨hi, rfl⟩
    · obtain ⟨sv', a, b⟩ := h.pr i q hq
      refine ⟨sv', ?_, lo_othT b h.prd (by decide) hg⟩
      rw [List.getElem?_append_left (List.getElem?_eq_some_iff.1 a).1]
      exact a
    · subst hi
      exact ⟨sv, by rw [List.getElem?_append_right (by rw [h.pl]; exact Nat.le_refl _), h.pl, Nat.sub_self]; rfl, lo_othT hk h.prd (by decide) hg⟩
theorem kept_grB {w0 : World} {α : Type} {E : ElK α} {v : Value} {l : List α} (h : Kept w0 w) (hB : w0.heap.size ≤ B) (ho : LO E w B v l) (hg : w.grownBy w' v.ownBlock) : Kept w0 w' :=
  ⟨hg.os.trans h.1, hg.tape.trans h.2.1, hg.output.trans h.2.2.1, Nat.le_trans h.size hg.size, fun k hk => (hg.block k (Nat.lt_of_lt_of_le hk h.size) (fun e => by have := (ho.lt' k e.symm).1; omega)).trans (h.2.2.2.2 k hk)⟩
theorem box_gr {α : Type} {E : ElK α} {v : Value} {l : List α} {d : Nat} (ho : LO E w B v l) (hg : w.grownBy w' v.ownBlock) (hd : d < B) (hl : d < w.heap.size) : w'.heap[d]? = w.heap[d]? := hg.block d hl (fun e => by have := (ho.lt' d e.symm).1; omega)
end
def TwO (n0 : Nat) (w : World) (xL xN xP : SlV) (sp : SpV) : Prop := ∃ B its qs, n0 ≤ B ∧ B ≤ w.heap.size ∧ TwJ n0 B w xL xN xP its qs sp.lex sp.nam sp.prd
theorem TwO.rd {n0 : Nat} {w : World} {xL xN xP : SlV} {sp : SpV} (h : TwO n0 w xL xN xP sp) (hz : SzV sp) (h5 : ∀ x ∈ sp.lex, x.1.size ≤ 200000000000000) (h6 : ∀ x ∈ sp.nam, x.size ≤ 200000000000000) : SpR w (val xL) (val xN) (val xP) sp := by
  obtain ⟨B, its, qs, _, _, h⟩ := h
  obtain ⟨z1, z2, z3, z4⟩ := hz
  refine ⟨?_, ?_, ?_⟩
  · refine lo_slice (E := lexE) h.lex rfl h.ll (by rw [h.ll]; omega) (fun i x y hx hy => ?_)
    obtain ⟨sv, h7, h8⟩ := h.lr i y hy
    rw [hx] at h7
    cases h7
    exact ⟨val sv, rfl, h5 y (List.mem_of_getElem? hy), KidsAt.mono (fun _ _ _ _ h => h) (fun d hd => hd.2.1) _ _ _ h8⟩
  · refine lo_slice (E := strE) h.nam rfl rfl (by omega) (fun i x y hx hy => ?_)
    have e : some x = some y := hx.symm.trans hy
    cases e
    exact ⟨rfl, h6 x (List.mem_of_getElem? hx)⟩
  · refine lo_slice (E := prdE) h.prd rfl h.pl (by rw [h.pl]; omega) (fun i x y hx hy => ?_)
    obtain ⟨sv, h7, h8⟩ := h.pr i y hy
    rw [hx] at h7
    cases h7
    have hm := List.mem_of_getElem? hy
    exact ⟨val sv, rfl, lo_slice (E := symE) h8 rfl rfl (by have := z4 y hm; omega) (fun j a b ha hb => by rw [ha] at hb; cases hb; rfl)⟩
theorem SpR.short {w : World} {vl vn vp : Value} {sp : SpV} (h : SpR w vl vn vp sp) : (∀ x ∈ sp.lex, x.1.size ≤ 200000000000000) ∧ ∀ x ∈ sp.nam, x.size ≤ 200000000000000 := by
  obtain ⟨h1, h2, _⟩ := h
  refine ⟨fun x hx => ?_, fun x hx => ?_⟩
  · obtain ⟨a, cap, e, h3, h4, h5⟩ := h1
    rcases h5 with h5 | ⟨c, o, h6, h7, h8⟩
    · rw [h5] at hx; cases hx
    · obtain ⟨i, hi⟩ := List.getElem?_of_mem hx
      obtain ⟨cs, _, _, v', _, hs, _⟩ := h8 i x hi
      exact hs
  · obtain ⟨a, cap, e, h3, h4, h5⟩ := h2
    rcases h5 with h5 | ⟨c, o, h6, h7, h8⟩
    · rw [h5] at hx; cases hx
    · obtain ⟨i, hi⟩ := List.getElem?_of_mem hx
      obtain ⟨cs, _, _, hs⟩ := h8 i x hi
      exact hs.2
theorem src_cells {α : Type} {E : ElK α} {w : World} {c : Nat} : ∀ (xs : List α) (o : Nat), (∀ (i : Nat) (x : α), xs[i]? = some x → ∀ (r : Nat) (u : Value), (E.enc x)[r]? = some u → w.cell? ⟨c, o + i * E.sz + r, none⟩ = some u) → ∀ (j : Nat) (u : Value), (flatE E xs)[j]? = some u → w.cell? ⟨c, o + j, none⟩ = some u
  | [], o, h, j, u, hj => by simp [flatE] at hj
  | x :: l, o, h, j, u, hj => by
    have e : flatE E (x :: l) = E.enc x ++ flatE E l := by unfold flatE; simp
    rw [e] at hj
    by_cases hl : j < E.sz
    · rw [List.getElem?_append_left (by rw [E.len]; exact hl)] at hj
      have := h 0 x rfl j u hj
      rw [Nat.zero_mul, Nat.add_zero] at this
      exact this
    · rw [List.getElem?_append_right (by rw [E.len]; omega), E.len] at hj
      have := src_cells l (o + E.sz) (fun i y hi r v hr => by
        have := h (i + 1) y hi r v hr
        rw [Nat.add_mul, Nat.one_mul] at this
        rw [show o + E.sz + i * E.sz + r = o + (i * E.sz + E.sz) + r by omega]
        exact this) (j - E.sz) u hj
      rw [show o + E.sz + (j - E.sz) = o + j by omega] at this
      exact this
theorem src_of {α : Type} {E : ElK α} {El : List Value → α → Prop} {w : World} {a : Option Addr} {n c : Nat} {xs : List α} (h : SliceOf w E.sz El (.slice a n c) xs) (he : ∀ cs x, El cs x → cs = E.enc x) : Src E w a xs := by
  obtain ⟨a', cap, e, _, _, h5⟩ := h
  simp only [Value.slice.injEq] at e
  obtain ⟨rfl, _, _⟩ := e
  rcases h5 with h5 | ⟨c', o, rfl, h7, h8⟩
  · exact .inl h5
  · refine .inr ⟨c', o, rfl, src_cells xs o (fun i x hi r u hr => ?_)⟩
    obtain ⟨cs, _, h9, h10⟩ := h8 i x hi
    rw [he cs x h10] at h9
    exact h9 r u hr
theorem names_src {w : World} {a : Option Addr} {n c : Nat} {ns : List ByteArray} (h : NamesAt w (.slice a n c) ns) : Src strE w a ns := src_of (E := strE) h (fun _ _ h => h.1)
theorem right_src {w : World} {a : Option Addr} {n c : Nat} {row : List SymM} (h : RightAt w (.slice a n c) row) : Src symE w a row := src_of (E := symE) h (fun _ _ h => h)
end Gu
end Ex
end Go.Proofs.YtbnchnlogikecaaGreatDoor
namespace Go.Proofs.YtbnchnlogikecaaGreatDoor
open Go.ChangeShapes Go.WideShapes Go.ChangeAt Go.RowKit
set_option linter.unusedVariables false
namespace Ex
namespace Gu
open Sh Gs
def spM {k : Nat} (sp : SpecM k) : SpV := { lex := sp.1.map fun x => (x.1, x.2.1, ⟨k, x.2.2⟩), nam := sp.2.1, start := sp.2.2.1, prd := sp.2.2.2 }
theorem slice_map {α β : Type} {w : World} {sz : Nat} {El : List Value → α → Prop} {El' : List Value → β → Prop} {v : Value} {xs : List α} (f : α → β) (h : SliceOf w sz El v xs) (hf : ∀ cs x, El cs x → El' cs (f x)) : SliceOf w sz El' v (xs.map f) := by
  obtain ⟨a, cap, h1, h2, h3, h4⟩ := h
  refine ⟨a, cap, by rw [List.length_map]; exact h1, by rw [List.length_map]; exact h2, by rw [List.length_map]; exact h3, ?_⟩
  rcases h4 with h4 | ⟨c, o, h5, h6, h7⟩
  · exact .inl (by rw [h4]; rfl)
  · refine .inr ⟨c, o, h5, h6, fun i y hy => ?_⟩
    rw [List.getElem?_map] at hy
    obtain ⟨x, hx, rfl⟩ := Option.map_eq_some_iff.1 hy
    obtain ⟨cs, g1, g2, g3⟩ := h7 i x hx
    exact ⟨cs, g1, g2, hf cs x g3⟩
theorem spec_in {W : World} {k : Nat} {cs : List Value} {sp : SpecM k} (h : SpecSz W k cs sp) : ∃ la lc na nc pa pc, cs = [.slice la sp.1.length lc, .slice na sp.2.1.length nc, .int .i64 (spM sp).start, .slice pa sp.2.2.2.length pc] ∧ SpR W (.slice la sp.1.length lc) (.slice na sp.2.1.length nc) (.slice pa sp.2.2.2.length pc) (spM sp) ∧ SzV (spM sp) := by
  obtain ⟨⟨vl, vn, vp, rfl, h1, h2, h3⟩, z1, z2, z3, z4⟩ := h
  obtain ⟨la, lc, rfl, _⟩ := SliceOf.len0 h1
  obtain ⟨na, nc, rfl, _⟩ := SliceOf.len0 h2
  obtain ⟨pa, pc, rfl, _⟩ := SliceOf.len0 h3
  refine ⟨la, lc, na, nc, pa, pc, rfl, ⟨slice_map _ h1 (fun cs x ⟨v', a, b, c⟩ => ⟨v', a, b, c⟩), h2, h3⟩, ?_, z2, z3, z4⟩
  show (sp.1.map _).length * 88 ≤ _
  rw [List.length_map]
  exact z1
theorem spec_arg6 {H : Type} {enc : TypeId × Value → H} {W : World} {v : Value} {d : DataW H} {p : List MemPlace} (hv : ∃ cs, v = .agg cs ∧ cs.size = Tryz.prog.cellsOf 27) (h : DataW.Trod enc Tryz.prog W 0 (fun _ => true) true 27 v d p) (hz : ∀ n ∈ d.weights Tryz.prog 27, n ≤ reachBytes) :
    ∃ (la na pa : Option Addr) (ln lc nn nc pn pc : Nat) (sp : SpV), v = .agg #[.slice la ln lc, .slice na nn nc, .int .i64 sp.start, .slice pa pn pc] ∧ SpR W (.slice la ln lc) (.slice na nn nc) (.slice pa pn pc) sp ∧ SzV sp := by
  obtain ⟨cs, rfl, hcs⟩ := hv
  rw [spec_size] at hcs
  obtain ⟨fuel, hf⟩ := h
  obtain ⟨sp, hsp⟩ := spec_sz (k := fuel) (Nat.le_refl _) (cs := cs.toList) (by rw [Array.length_toList]; exact hcs) hf hz
  obtain ⟨la, lc, na, nc, pa, pc, e, h1, h2⟩ := spec_in hsp
  have ecs : cs = #[.slice la sp.1.length lc, .slice na sp.2.1.length nc, .int .i64 (spM sp).start, .slice pa sp.2.2.2.length pc] := by cases cs; simp_all
  exact ⟨la, na, pa, _, lc, _, nc, _, pc, spM sp, by rw [ecs], h1, h2⟩
end Gu
end Ex
end Go.Proofs.YtbnchnlogikecaaGreatDoor
