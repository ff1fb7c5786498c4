import Derived.Test.YtbnchnlogikecaaGreatDoorPGtD
import Derived.Defers
import Derived.Recover
import Derived.Laws.Pointers
import Derived.Carry
import Derived.Deep.DeepMust
import Derived.BigQuiet
namespace Go.Proofs.YtbnchnlogikecaaGreatDoor
open Go.RowKit
attribute [local go_sem] Oper.semAt_some
set_option linter.unusedVariables false
set_option linter.unusedSimpArgs false
set_option maxRecDepth 100000
set_option maxHeartbeats 4000000
namespace Ex
namespace Gs
open Sh
def FbB (w : World) (g : Nat) (er at_ : Int) (nm : ByteArray) : Prop := w.heap[g]? = some (.cells #[.int .i64 er, .int .i64 at_, .string nm] 30 (0, 0))
theorem FbB.facts {w : World} {g : Nat} {er at_ : Int} {nm : ByteArray} (h : FbB w g er at_ nm) : (w.cell? ⟨g, 0, none⟩ = some (.int .i64 er) ∧ w.cell? ⟨g, 1, none⟩ = some (.int .i64 at_) ∧ w.cell? ⟨g, 2, none⟩ = some (.string nm)) ∧ w.frozen? ⟨g, 0, none⟩ = false ∧ w.frozen? ⟨g, 1, none⟩ = false ∧ w.frozen? ⟨g, 2, none⟩ = false := by
  unfold FbB at h
  refine ⟨⟨?_, ?_, ?_⟩, ?_, ?_, ?_⟩ <;> simp [World.cell?, World.frozen?, h]
theorem FbB.set {w : World} {g : Nat} {er at_ : Int} {nm : ByteArray} (h : FbB w g er at_ nm) (er' at' : Int) (nm' : ByteArray) : FbB (((w.setCell ⟨g, 0, none⟩ (.int .i64 er')).setCell ⟨g, 1, none⟩ (.int .i64 at')).setCell ⟨g, 2, none⟩ (.string nm')) g er' at' nm' := by
  unfold FbB at h ⊢
  rw [heap_setb (heap_setb (heap_setb h))]
  rfl
theorem FbB.keep {w w' : World} {g : Nat} {er at_ : Int} {nm : ByteArray} (h : FbB w g er at_ nm) (hk : Kept w w') : FbB w' g er at_ nm := (hk.2.2.2.2 g (Array.getElem?_eq_some_iff.1 h).1).trans h
theorem catch_bad (g : Nat) (er at_ e0 a0 : Int) (nm n0 : ByteArray) (older : List PanicEntry) (w : World) (h : FbB w g e0 a0 n0) :
    CallsD Tryz.prog 48 #[.pointer (some ⟨g, 0, none⟩)] (.panicking ({ v := .iface 30 (.agg #[.int .i64 er, .int .i64 at_, .string nm]), recovered := false } :: older)) w fun e u' w' =>
      e = .returned (.tuple #[]) ∧ u' = .panicking ({ v := .iface 30 (.agg #[.int .i64 er, .int .i64 at_, .string nm]), recovered := true } :: older) ∧ w' = ((w.setCell ⟨g, 0, none⟩ (.int .i64 er)).setCell ⟨g, 1, none⟩ (.int .i64 at_)).setCell ⟨g, 2, none⟩ (.string nm) := by
  obtain ⟨⟨c0, c1, c2⟩, z0, z1, z2⟩ := h.facts
  have hta : ∀ (w : World), (Instr.typeAssert (.iface 30 (.agg #[.int .i64 er, .int .i64 at_, .string nm])) 20 30 false).run Tryz.prog w = .ok (.agg #[.int .i64 er, .int .i64 at_, .string nm]) w := fun w => by kernel_rfl
  refine callsD_of_wpS Tryz.func48 rfl fun c₀ cs hu => ?_
  apply wpS_seq
  apply wpS_region
  simp [wpOpsS, go_sem, recoverD, hu, Tryz.ntmps48, Exit.thenS]
  apply wpS_seq
  apply wpS_region
  simp [wpOpsS, go_sem, recoverD, hu, Exit.thenS]
  refine wpS_cond (t := true) (by simp [Act.eval, Array.replicate]) ?_
  simp only [if_true]
  apply wpS_region
  simp [wpOpsS, go_sem, hta, c0, c1, c2, z0, z1, z2, bodyPostS, results, Tryz.results48]
theorem catch_idle (g : Nat) (w : World) :
    CallsD Tryz.prog 48 #[.pointer (some ⟨g, 0, none⟩)] .returning w fun e u' w' => e = .returned (.tuple #[]) ∧ u' = .returning ∧ w' = w := by
  refine callsD_of_wpS Tryz.func48 rfl fun c₀ cs hu => ?_
  apply wpS_seq
  apply wpS_region
  simp [wpOpsS, go_sem, recoverD, hu, Tryz.ntmps48, Exit.thenS]
  apply wpS_seq
  apply wpS_region
  simp [wpOpsS, go_sem, recoverD, hu, Exit.thenS]
  refine wpS_cond (t := false) (by simp [Act.eval, Array.replicate]) ?_
  simp only [Bool.false_eq_true, if_false]
  refine wpS_of_wp (wp_skip ?_)
  cases c₀
  simp_all [bodyPostS, results, Tryz.results48]
def OutC (ρ : Nat → Nat) (b : Nat) (T : ByteArray) (w : World) (x : Except Flt RSt) (e : Ending) (w' : World) : Prop :=
  match x with
  | .ok s => e = .returned (.agg #[.int .i64 0, .int .i64 0, .string ⟨#[]⟩]) ∧ ∃ ρ', RdA ρ' w' b T s ∧ Went ρ b w ρ' w'
  | .error f => e = .returned (.agg #[.int .i64 f.1, .int .i64 f.2.1, .string f.2.2]) ∧ Fr ρ b w w'
theorem caughtR_is (T : ByteArray) (hT : T.size ≤ 100000) (b : Nat) (w : World) (ρ : Nat → Nat) (s : RSt) (h : RdA ρ w b T s) (hf : Wf T s) (he : Emp s) (hwd : Wd T s) :
    Calls Tryz.prog 39 #[.func (.func 40) #[.pointer (some ⟨b, 0, none⟩)] #[]] w (OutC ρ b T w (wholeG T s)) := by
  have hmf : ∀ (fn : Fn) (first cap : Array Value) (w : World), (Instr.makeFunc fn first cap).run Tryz.prog w = .ok (.func fn first cap) w := fun _ _ _ _ => rfl
  obtain ⟨X, hX⟩ : ∃ X, wholeG T s = X := ⟨_, rfl⟩
  rw [hX]
  have HWH : Hid (∀ w ρ, RdA ρ w b T s → Calls Tryz.prog 40 #[.pointer (some ⟨b, 0, none⟩)] w (OutR ρ b T w X)) := fun w ρ h => by
    rw [← hX]
    exact whole_is T hT b w ρ s h hf he hwd
  have HG := hide1 (h.fresh (Nat.le_refl _))
  have HGB := hide1 (show w.heap.size ≠ b from fun e => by have := h.ltb; omega)
  have HA1 := hide1 (h.kept ((Kept.refl w).alloc #[.int .i64 0, .int .i64 0, .string ⟨#[]⟩] 30))
  have HW1 := hide1 ((Went.refl ρ b w).kept ((Kept.refl w).alloc #[.int .i64 0, .int .i64 0, .string ⟨#[]⟩] 30))
  have HB1 : Hid (FbB (w.alloc (.cells #[.int .i64 0, .int .i64 0, .string ⟨#[]⟩] 30)) w.heap.size 0 0 ⟨#[]⟩) := heap_alloc_new w _
  clear hX hT h hf he hwd
  go_enter_defers Tryz.func39, Tryz.ntmps39
  go_upto_region 1 with fail
  obtain ⟨g, hg⟩ : ∃ g, w.heap.size = g := ⟨_, rfl⟩
  generalize w.alloc (.cells #[.int .i64 0, .int .i64 0, .string ⟨#[]⟩] 30) = W1 at HA1 HW1 HB1 ⊢
  rw [hg] at HB1 HG HGB ⊢
  have HGW := hide1 (Nat.le_of_eq hg)
  clear hg
  go_wp2_with fail
  go_at_call 40
  refine (HWH.out _ _ HA1.out).mono ?_
  intro e w2 h2
  rcases X with f | s2
  · obtain ⟨rfl, hf2⟩ := h2
    obtain ⟨f0, f1, f2⟩ := f
    have HB2 := hide1 (show FbB w2 g 0 0 ⟨#[]⟩ from (hf2.2.2.2.2 g (Array.getElem?_eq_some_iff.1 HB1.out).1 (fun e => by rcases e with e | e; exact HGB.out e; exact e HG.out)).trans HB1.out)
    have HF2 := hide1 (HW1.out.fr hf2)
    clear hf2
    unfold thrown
    go_wp2_with fail
    refine leaves_cons (f := 48) (args := #[.pointer (some ⟨g, 0, none⟩)]) (by simp) (by simp [go_sem]) ?_
    refine (catch_bad g _ _ 0 0 _ ⟨#[]⟩ _ _ HB2.out).mono ?_
    rintro e u' w'' ⟨rfl, rfl, rfl⟩
    have HB3 := hide1 (HB2.out.set f0 f1 f2)
    have HF3 := hide1 (show Fr ρ b w (((w2.setCell ⟨g, 0, none⟩ (.int .i64 f0)).setCell ⟨g, 1, none⟩ (.int .i64 f1)).setCell ⟨g, 2, none⟩ (.string f2)) from KT.wide (KT.wide (KT.wide HF2.out (set_kt _ _ _ _) (fun d hd hs => by have := HGW.out; omega)) (set_kt _ _ _ _) (fun d hd hs => by have := HGW.out; omega)) (set_kt _ _ _ _) (fun d hd hs => by have := HGW.out; omega))
    dsimp only at HB3 HF3 ⊢
    generalize ((w2.setCell ⟨g, 0, none⟩ (.int .i64 f0)).setCell ⟨g, 1, none⟩ (.int .i64 f1)).setCell ⟨g, 2, none⟩ (.string f2) = W3 at HB3 HF3 ⊢
    obtain ⟨⟨c0, c1, c2⟩, -⟩ := HB3.out.facts
    simp [Leaves, settle, results, Tryz.results39, go_sem, c0, c1, c2]
    exact ⟨rfl, HF3.out⟩
  · obtain ⟨rfl, ρ2, ha2, hw2⟩ := h2
    have HB2 := hide1 (show FbB w2 g 0 0 ⟨#[]⟩ from (hw2.block (Array.getElem?_eq_some_iff.1 HB1.out).1 HGB.out HG.out).trans HB1.out)
    have HG2 := hide1 ((hw2.2 g (Array.getElem?_eq_some_iff.1 HB1.out).1).trans HG.out)
    have HA2 := hide1 ha2
    have HW2 := hide1 (HW1.out.trans hw2)
    obtain ⟨⟨c0, c1, c2⟩, z0, z1, z2⟩ := HB2.out.facts
    have hlg := (Array.getElem?_eq_some_iff.1 HB2.out).1
    clear ha2 hw2
    go_wp2_with fail
    have HB3 := hide1 (HB2.out.set 0 0 ⟨#[]⟩)
    have HA3 := hide1 (((HA2.out.set HG2.out HGB.out 0 (.int .i64 0)).set HG2.out HGB.out 1 (.int .i64 0)).set HG2.out HGB.out 2 (.string ⟨#[]⟩))
    have HW3 := hide1 (((HW2.out.set HGW.out 0 (.int .i64 0)).set HGW.out 1 (.int .i64 0)).set HGW.out 2 (.string ⟨#[]⟩))
    clear c0 c1 c2 z0 z1 z2 hlg
    generalize ((w2.setCell ⟨g, 0, none⟩ (.int .i64 0)).setCell ⟨g, 1, none⟩ (.int .i64 0)).setCell ⟨g, 2, none⟩ (.string ⟨#[]⟩) = W3 at HB3 HA3 HW3 ⊢
    refine leaves_cons (f := 48) (args := #[.pointer (some ⟨g, 0, none⟩)]) (by simp) (by simp [go_sem]) ?_
    refine (catch_idle g _).mono ?_
    rintro e u' w'' ⟨rfl, rfl, rfl⟩
    obtain ⟨⟨c0, c1, c2⟩, -⟩ := HB3.out.facts
    simp [Leaves, settle, results, Tryz.results39, go_sem, c0, c1, c2]
    exact ⟨rfl, ρ2, HA3.out, HW3.out⟩
end Gs
end Ex
end Go.Proofs.YtbnchnlogikecaaGreatDoor
namespace Go.Proofs.YtbnchnlogikecaaGreatDoor
open Go.RowKit Go.Maps
attribute [local go_sem] Oper.semAt_some
set_option linter.unusedVariables false
namespace Ex
namespace Gs
open Sh
def Bad {α : Type} (x : Except Flt α) : Prop := ∀ f, x = .error f → f.1 ≠ 0
theorem Bad.bind {α β : Type} {x : Except Flt α} {g : α → Except Flt β} (h : Bad x) (hg : ∀ a, x = .ok a → Bad (g a)) : Bad (x.bind g) := fun f hf => by
  rcases bind_err hf with h1 | ⟨a, h1, h2⟩
  · exact h f h1
  · exact hg a h1 f h2
theorem bad_ok {α : Type} {a : α} : Bad (.ok a : Except Flt α) := fun f h => by cases h
theorem bad_err {α : Type} {e : Flt} (h : e.1 ≠ 0) : Bad (.error e : Except Flt α) := fun f hf => by cases hf; exact h
theorem bad_lit {α : Type} {e a : Int} {n : ByteArray} (h : e ≠ 0) : Bad (.error (e, a, n) : Except Flt α) := bad_err h
theorem give_bad {N : Tok} {sk sn : Int} {s : RSt} : Bad (giveM N sk sn s) := by
  unfold giveM
  split
  · rename_i h; exact bad_err h
  · split
    · exact bad_lit (by decide)
    · exact bad_ok
theorem sign_badM {T : ByteArray} {c : Int} {s : RSt} : Bad (signM T c s) := by
  unfold signM
  split
  · exact bad_ok
  · exact bad_lit (by decide)
theorem pat_bad {T : ByteArray} {k : Nat} : Bad (patM T k) := by
  unfold patM
  split
  · split
    · exact bad_lit (by decide)
    · split
      · exact bad_ok
      · exact bad_lit (by decide)
  · exact bad_lit (by decide)
theorem partM_bad {T : ByteArray} {k : Nat} : Bad (partM T k) := by
  unfold partM
  split
  · exact bad_ok
  · rename_i h; exact bad_err h
theorem rule_bad {T : ByteArray} {pl : Int} {tr : Bool} {s : RSt} : Bad (ruleM T pl tr s) := by
  unfold ruleM
  split
  · exact bad_lit (by decide)
  · exact give_bad.bind fun _ _ => sign_badM.bind fun _ _ => pat_bad.bind fun _ _ => sign_badM
theorem start_bad {T : ByteArray} {pl : Int} {s : RSt} : Bad (startM T pl s) := by
  unfold startM
  split
  · exact bad_lit (by decide)
  · split
    · rename_i h; exact bad_err h
    · exact sign_badM
theorem side_bad {T : ByteArray} {pr : Int} : ∀ (f n : Nat) (N : Tok) (s : RSt), Bad (sideM T pr f n N s)
  | 0, n, N, s => bad_ok
  | f + 1, n, N, s => by
    unfold sideM
    split
    · split
      · exact bad_lit (by decide)
      · exact partM_bad.bind fun _ _ => side_bad f _ _ _
    · exact bad_ok
theorem right_bad {T : ByteArray} {left : Int} {s : RSt} : Bad (rightM T left s) := by
  unfold rightM
  refine partM_bad.bind fun N _ => ?_
  split
  · exact bad_lit (by decide)
  · exact side_bad _ _ _ _
theorem sides_bad {T : ByteArray} {left : Int} : ∀ (f : Nat) (s : RSt), Bad (sidesM T left f s)
  | 0, s => bad_ok
  | f + 1, s => by
    unfold sidesM
    refine right_bad.bind fun r _ => ?_
    split
    · exact sides_bad f _
    · exact bad_ok
theorem stat_bad {T : ByteArray} {N : Tok} {s : RSt} : Bad (statM T N s) := by
  unfold statM
  split
  · exact rule_bad
  · split
    · exact rule_bad
    · split
      · exact start_bad
      · unfold nontM
        refine give_bad.bind fun _ _ => ?_
        split
        · exact bad_lit (by decide)
        · exact sign_badM.bind fun _ _ => sides_bad _ _
theorem stmts_bad {T : ByteArray} : ∀ (f : Nat) (s : RSt), Bad (stmtsM T f s)
  | 0, s => bad_ok
  | f + 1, s => by
    unfold stmtsM
    split
    · exact bad_ok
    · exact stat_bad.bind fun _ _ => stmts_bad f _
theorem res_bad : ∀ (us : List Use) (s : RSt), Bad (resM us s)
  | [], s => bad_ok
  | u :: us, s => by
    unfold resM
    split
    · exact res_bad us _
    · split
      · exact res_bad us _
      · exact bad_lit (by decide)
theorem whole_bad {T : ByteArray} {s : RSt} : Bad (wholeG T s) := by
  unfold wholeG
  refine (stmts_bad _ _).bind fun s _ => ?_
  split
  · exact bad_lit (by decide)
  · exact res_bad _ _
def SpO (base : Nat) (w : World) (v : Value) (s : RSt) : Prop := ∃ (xL xN xP : SlV) (its : List LexM) (ps : List PrdM) (ρ : Nat → Nat), v = .agg #[val xL, val xN, .int .i64 s.st, val xP] ∧ LO lexE w 0 (val xL) its ∧ LexR ρ w its s.lex ∧ LO strE w 0 (val xN) s.nam ∧ LO prdE w 0 (val xP) ps ∧ PrdR ρ w ps s.prd s.sds ∧
  Own ρ (val xL) 1 ∧ Own ρ (val xN) 3 ∧ Own ρ (val xP) 4 ∧ ∀ d, ρ d ≠ 0 → base ≤ d ∧ d < w.heap.size
def fltV (f : Flt) : Value := .agg #[.int .i64 f.1, .int .i64 f.2.1, .string f.2.2]
def noV : Value := .agg #[.slice none 0 0, .slice none 0 0, .int .i64 0, .slice none 0 0]
def okV : Value := .agg #[.int .i64 0, .int .i64 0, .string ⟨#[]⟩]
def OutQ (w : World) (x : Except Flt RSt) (e : Ending) (w' : World) : Prop :=
  Kept w w' ∧ match x with
  | .ok s => ∃ v, e = .returned (.tuple #[v, okV]) ∧ SpO w.heap.size w' v s
  | .error f => e = .returned (.tuple #[noV, fltV f])
theorem spec_results {fn : Func} {p q : Tmp} (h : fn.results = #[.cell p 27, .cell q 30]) (tmps : Array Value) (w : World) (g g' : Nat) (x0 x1 x2 x3 y0 y1 y2 : Value)
    (hp : tmps.getD p undef = .pointer (some ⟨g, 0, none⟩)) (hg : w.heap[g]? = some (.cells #[x0, x1, x2, x3] 27 (0, 0)))
    (hp' : tmps.getD q undef = .pointer (some ⟨g', 0, none⟩)) (hg' : w.heap[g']? = some (.cells #[y0, y1, y2] 30 (0, 0))) :
    (results fn tmps).run Tryz.prog w = .ok (.tuple #[.agg #[x0, x1, x2, x3], .agg #[y0, y1, y2]]) w := by
  have hp2 : tmps[p]?.getD undef = .pointer (some ⟨g, 0, none⟩) := by simpa using hp
  have hp3 : tmps[q]?.getD undef = .pointer (some ⟨g', 0, none⟩) := by simpa using hp'
  have e1 := run_loadVar_row (P := Tryz.prog) w g 27 27 _ (0, 0) _ hg Tryz.underlying27 rfl (by kernel_rfl)
  have e2 := run_loadVar_row (P := Tryz.prog) w g' 30 30 _ (0, 0) _ hg' Tryz.underlying30 rfl (by kernel_rfl)
  simp [results, h, hp2, hp3, asAddr, e1, e2]
def ResB (w : World) (g g' : Nat) (x0 x1 x2 x3 y0 y1 y2 : Value) : Prop := g ≠ g' ∧ w.heap[g]? = some (.cells #[x0, x1, x2, x3] 27 (0, 0)) ∧ w.heap[g']? = some (.cells #[y0, y1, y2] 30 (0, 0))
theorem ResB.facts {w : World} {g g' : Nat} {x0 x1 x2 x3 y0 y1 y2 : Value} (h : ResB w g g' x0 x1 x2 x3 y0 y1 y2) : (w.cell? ⟨g, 0, none⟩ = some x0 ∧ w.cell? ⟨g, 1, none⟩ = some x1 ∧ w.cell? ⟨g, 2, none⟩ = some x2 ∧ w.cell? ⟨g, 3, none⟩ = some x3) ∧ (w.cell? ⟨g', 0, none⟩ = some y0 ∧ w.cell? ⟨g', 1, none⟩ = some y1 ∧ w.cell? ⟨g', 2, none⟩ = some y2) ∧ (∀ o, w.frozen? ⟨g, o, none⟩ = false) ∧ (∀ o, w.frozen? ⟨g', o, none⟩ = false) ∧ g < w.heap.size ∧ g' < w.heap.size := by
  obtain ⟨_, h1, h2⟩ := h
  refine ⟨⟨?_, ?_, ?_, ?_⟩, ⟨?_, ?_, ?_⟩, fun o => ?_, fun o => ?_, (Array.getElem?_eq_some_iff.1 h1).1, (Array.getElem?_eq_some_iff.1 h2).1⟩ <;> simp [World.cell?, World.frozen?, h1, h2]
theorem ResB.keep {w w' : World} {g g' : Nat} {x0 x1 x2 x3 y0 y1 y2 : Value} (h : ResB w g g' x0 x1 x2 x3 y0 y1 y2) (hg : w'.heap[g]? = w.heap[g]?) (hg' : w'.heap[g']? = w.heap[g']?) : ResB w' g g' x0 x1 x2 x3 y0 y1 y2 := ⟨h.1, hg.trans h.2.1, hg'.trans h.2.2⟩
def set4 (w : World) (g : Nat) (x0 x1 x2 x3 : Value) : World := (((w.setCell ⟨g, 0, none⟩ x0).setCell ⟨g, 1, none⟩ x1).setCell ⟨g, 2, none⟩ x2).setCell ⟨g, 3, none⟩ x3
def set3 (w : World) (g : Nat) (x0 x1 x2 : Value) : World := ((w.setCell ⟨g, 0, none⟩ x0).setCell ⟨g, 1, none⟩ x1).setCell ⟨g, 2, none⟩ x2
theorem ResB.set {w : World} {g g' : Nat} {x0 x1 x2 x3 y0 y1 y2 : Value} (h : ResB w g g' x0 x1 x2 x3 y0 y1 y2) (a0 a1 a2 a3 b0 b1 b2 : Value) : ResB (set3 (set4 w g a0 a1 a2 a3) g' b0 b1 b2) g g' a0 a1 a2 a3 b0 b1 b2 := by
  obtain ⟨hn, h1, h2⟩ := h
  have k1 : (set4 w g a0 a1 a2 a3).heap[g]? = some (.cells #[a0, a1, a2, a3] 27 (0, 0)) := by
    unfold set4
    rw [heap_setb (heap_setb (heap_setb (heap_setb h1)))]
    rfl
  have k2 : (set4 w g a0 a1 a2 a3).heap[g']? = some (.cells #[y0, y1, y2] 30 (0, 0)) := by
    unfold set4
    rw [set_heap_ne hn.symm, set_heap_ne hn.symm, set_heap_ne hn.symm, set_heap_ne hn.symm]
    exact h2
  refine ⟨hn, ?_, ?_⟩
  · unfold set3
    rw [set_heap_ne hn, set_heap_ne hn, set_heap_ne hn]
    exact k1
  · unfold set3
    rw [heap_setb (heap_setb (heap_setb k2))]
    rfl
theorem KT.set3 {S : Nat → Prop} {w w' : World} (h : KT S w w') {g : Nat} (hg : w.heap.size ≤ g) (x0 x1 x2 : Value) : KT S w (Gs.set3 w' g x0 x1 x2) :=
  KT.wide (KT.wide (KT.wide h (set_kt _ _ _ _) (fun d hd hs => by omega)) (set_kt _ _ _ _) (fun d hd hs => by omega)) (set_kt _ _ _ _) (fun d hd hs => by omega)
theorem KT.set4 {S : Nat → Prop} {w w' : World} (h : KT S w w') {g : Nat} (hg : w.heap.size ≤ g) (x0 x1 x2 x3 : Value) : KT S w (Gs.set4 w' g x0 x1 x2 x3) :=
  KT.wide (KT.wide (KT.wide (KT.wide h (set_kt _ _ _ _) (fun d hd hs => by omega)) (set_kt _ _ _ _) (fun d hd hs => by omega)) (set_kt _ _ _ _) (fun d hd hs => by omega)) (set_kt _ _ _ _) (fun d hd hs => by omega)
theorem kept_of_kt {S : Nat → Prop} {w w' : World} (h : KT S w w') (hS : ∀ d, S d → w.heap.size ≤ d) : Kept w w' := ⟨h.1, h.2.1, h.2.2.1, h.2.2.2.1, fun d hd => h.2.2.2.2 d hd (fun hs => by have := hS d hs; omega)⟩
theorem reader_new {w : World} {b m : Nat} {T : ByteArray} (hb : w.heap[b]? = some (.cells #[.string T, .int .i64 0, .slice none 0 0, .slice none 0 0, .int .i64 0, .slice none 0 0, .map (some m), .slice none 0 0, .bool false] 89 (0, 0))) (hm : GMap w m 1 st0.giv) (hne : b ≠ m) :
    RdA (fun d => if d = m then 6 else 0) w b T st0 :=
  ⟨(none, 0, 0), (none, 0, 0), (none, 0, 0), (none, 0, 0), m, [], [],
    { box := hb
      lex := LO.nil _ _
      lexR := LexR.nil _ _
      nam := LO.nil _ _
      prd := LO.nil _ _
      prdR := PrdR.nil _ _
      use := LO.nil _ _
      giv := hm
      o1 := fun d h => by cases h
      o3 := fun d h => by cases h
      o4 := fun d h => by cases h
      o5 := fun d h => by cases h
      o6 := if_pos rfl
      o0 := if_neg hne
      lo := fun d hd => by
        by_cases e : d = m
        · rw [e]; exact hm.lt
        · rw [if_neg e] at hd; exact absurd rfl hd }⟩
end Gs
end Ex
end Go.Proofs.YtbnchnlogikecaaGreatDoor
namespace Go.Proofs.YtbnchnlogikecaaGreatDoor
open Go.RowKit Go.Maps
attribute [local go_sem] Oper.semAt_some
set_option linter.unusedVariables false
set_option linter.unusedSimpArgs false
set_option maxRecDepth 100000
set_option maxHeartbeats 1000000
namespace Ex
namespace Gs
open Sh
theorem ResB.drew {w : World} {g g' : Nat} {x0 x1 x2 x3 y0 y1 y2 : Value} (h : ResB w g g' x0 x1 x2 x3 y0 y1 y2) : ResB w.drew g g' x0 x1 x2 x3 y0 y1 y2 := h
theorem read_is (T : ByteArray) (hT : T.size ≤ 100000) (w : World) :
    Calls Tryz.prog 29 #[.string T] w (OutQ w (wholeM T)) := by
  obtain ⟨X, hX⟩ : ∃ X, wholeM T = X := ⟨_, rfl⟩
  rw [hX]
  have HCW : Hid (∀ b w ρ, RdA ρ w b T st0 → Calls Tryz.prog 39 #[.func (.func 40) #[.pointer (some ⟨b, 0, none⟩)] #[]] w (OutC ρ b T w X)) := fun b w ρ h => by
    rw [← hX]
    exact caughtR_is T hT b w ρ st0 h (st0_wf T) (fun ys h => by cases h) ⟨Nat.zero_le _, fun u h => by cases h⟩
  have HXB : Hid (∀ f, X = .error f → f.1 ≠ 0) := fun f h => whole_bad (T := T) (s := st0) f (hX.trans h)
  clear hX hT
  have hmm := @run_makeMap Tryz.prog
  have hmf : ∀ (fn : Fn) (first cap : Array Value) (w : World), (Instr.makeFunc fn first cap).run Tryz.prog w = .ok (.func fn first cap) w := fun _ _ _ _ => rfl
  go_enter Tryz.func29, Tryz.ntmps29
  go_upto_region 1 with fail
  have HK1 := hide1 ((((Kept.refl w).alloc #[.slice none 0 0, .slice none 0 0, .int .i64 0, .slice none 0 0] 27)).alloc #[.int .i64 0, .int .i64 0, .string ⟨#[]⟩] 30)
  have HR1 : Hid (ResB ((w.alloc (.cells #[.slice none 0 0, .slice none 0 0, .int .i64 0, .slice none 0 0] 27)).alloc (.cells #[.int .i64 0, .int .i64 0, .string ⟨#[]⟩] 30)) w.heap.size (w.heap.size + 1) (.slice none 0 0) (.slice none 0 0) (.int .i64 0) (.slice none 0 0) (.int .i64 0) (.int .i64 0) (.string ⟨#[]⟩)) := by
    refine ⟨by omega, (heap_alloc_old _ _ (by simp)).trans (heap_alloc_new w _), ?_⟩
    have h := heap_alloc_new (w.alloc (.cells #[.slice none 0 0, .slice none 0 0, .int .i64 0, .slice none 0 0] 27)) (.cells #[.int .i64 0, .int .i64 0, .string ⟨#[]⟩] 30)
    rw [World.size_alloc] at h
    exact h
  have HS1 : Hid (((w.alloc (.cells #[.slice none 0 0, .slice none 0 0, .int .i64 0, .slice none 0 0] 27)).alloc (.cells #[.int .i64 0, .int .i64 0, .string ⟨#[]⟩] 30)).heap.size = w.heap.size + 2) := by
    show ((w.alloc _).alloc _).heap.size = w.heap.size + 2
    rw [World.size_alloc, World.size_alloc]
  obtain ⟨g3, hg3⟩ : ∃ g, w.heap.size + 1 = g := ⟨_, rfl⟩
  rw [hg3] at HR1 ⊢
  have HG3 := hide1 hg3
  obtain ⟨g2, hg2⟩ : ∃ g, w.heap.size = g := ⟨_, rfl⟩
  generalize (w.alloc (.cells #[.slice none 0 0, .slice none 0 0, .int .i64 0, .slice none 0 0] 27)).alloc (.cells #[.int .i64 0, .int .i64 0, .string ⟨#[]⟩] 30) = W1 at HK1 HR1 HS1 ⊢
  rw [hg2] at HR1 HS1 HG3 ⊢
  have HG2 := hide1 hg2
  clear hg2 hg3
  have HM1 : GMap (W1.alloc (.map #[] 0)) W1.heap.size 0 (fun _ => none) := MapS.made (World.ownsMap_made W1 Tryz.prog 9 symR)
  obtain ⟨W2, hins0, hgm, hkb, hsz⟩ := HM1.store (by omega) (x := errW) (by decide) (2, 0)
  have hins : (Instr.mapUpdate 86 (.map (some W1.heap.size)) (.string ⟨#[101, 114, 114, 111, 114]⟩) (.agg #[.int .i64 2, .int .i64 0])).run Tryz.prog (W1.alloc (.map #[] 0)) = .ok () W2 := hins0
  clear hins0 HM1
  go_upto_region 2 with fail
  obtain ⟨m, hm⟩ : ∃ m, W1.heap.size = m := ⟨_, rfl⟩
  have hb2 : W2.heap.size = m + 1 := by rw [hsz, World.size_alloc, hm]
  obtain ⟨b, hb⟩ : ∃ b, m + 1 = b := ⟨_, rfl⟩
  have HA3 : Hid (RdA (fun d => if d = m then 6 else 0) (W2.alloc (.cells #[.string T, .int .i64 0, .slice none 0 0, .slice none 0 0, .int .i64 0, .slice none 0 0, .map (some m), .slice none 0 0, .bool false] 89)) b T st0) := by
    have h1 := heap_alloc_new W2 (.cells #[.string T, .int .i64 0, .slice none 0 0, .slice none 0 0, .int .i64 0, .slice none 0 0, .map (some m), .slice none 0 0, .bool false] 89)
    rw [hb2, hb] at h1
    rw [hm] at hgm
    exact reader_new h1 (hgm.same (heap_alloc_old _ _ (by rw [hb2]; omega))) (by omega)
  have HK3 : Hid (Kept w (W2.alloc (.cells #[.string T, .int .i64 0, .slice none 0 0, .slice none 0 0, .int .i64 0, .slice none 0 0, .map (some m), .slice none 0 0, .bool false] 89))) := by
    rw [hm] at hkb
    refine Kept.alloc ?_ _ _
    have h1 : Kept w (W1.alloc (.map #[] 0)) := Kept.of (HK1.out.below.alloc HK1.out.size _)
    refine KeptBut.up h1 ?_ hkb
    have := HS1.out; have := HG2.out
    omega
  have HR3 : Hid (ResB (W2.alloc (.cells #[.string T, .int .i64 0, .slice none 0 0, .slice none 0 0, .int .i64 0, .slice none 0 0, .map (some m), .slice none 0 0, .bool false] 89)) g2 g3 (.slice none 0 0) (.slice none 0 0) (.int .i64 0) (.slice none 0 0) (.int .i64 0) (.int .i64 0) (.string ⟨#[]⟩)) := by
    have h1 := HS1.out
    have h3 := HG3.out
    rw [hm] at hkb h1
    refine HR1.out.keep ?_ ?_
    · refine (heap_alloc_old _ _ (by rw [hb2]; omega)).trans ((hkb.2.2.2.2 g2 (by rw [World.size_alloc, hm]; omega) (by omega)).trans (heap_alloc_old _ _ (by rw [hm]; omega)))
    · refine (heap_alloc_old _ _ (by rw [hb2]; omega)).trans ((hkb.2.2.2.2 g3 (by rw [World.size_alloc, hm]; omega) (by omega)).trans (heap_alloc_old _ _ (by rw [hm]; omega)))
  have HNE := hide1 (show g2 ≠ b ∧ g3 ≠ b ∧ g2 ≠ m ∧ g3 ≠ m ∧ w.heap.size ≤ b ∧ w.heap.size ≤ m by have h1 := HS1.out; have h3 := HG3.out; have h2 := HG2.out; omega)
  rw [hm, hb]
  generalize W2.alloc (.cells #[.string T, .int .i64 0, .slice none 0 0, .slice none 0 0, .int .i64 0, .slice none 0 0, .map (some m), .slice none 0 0, .bool false] 89) = W3 at HA3 HK3 HR3 ⊢
  clear hins hgm hkb hsz hm hb2 hb HK1 HR1 HS1 hmm
  go_wp2_with fail
  go_at_call 39
  refine (HCW.out _ _ _ HA3.out).mono ?_
  intro e w4 h4
  obtain ⟨ρ, hρ⟩ : ∃ ρ : Nat → Nat, (fun d => if d = m then 6 else 0) = ρ := ⟨_, rfl⟩
  rw [hρ] at h4
  have HRO := hide1 (show ∀ d, ρ d ≠ 0 → w.heap.size ≤ d from fun d hd => by
    rw [← hρ] at hd
    by_cases e : d = m
    · rw [e]; exact HNE.out.2.2.2.2.2
    · simp only [e, if_false] at hd; exact absurd rfl hd)
  have HR20 := hide1 (show ρ g2 = 0 ∧ ρ g3 = 0 by rw [← hρ]; exact ⟨if_neg HNE.out.2.2.1, if_neg HNE.out.2.2.2.1⟩)
  clear hρ HCW
  rcases X with f | s
  · obtain ⟨rfl, hf4⟩ := h4
    obtain ⟨f0, f1, f2⟩ := f
    have HR4 : Hid (ResB w4 g2 g3 (.slice none 0 0) (.slice none 0 0) (.int .i64 0) (.slice none 0 0) (.int .i64 0) (.int .i64 0) (.string ⟨#[]⟩)) := HR3.out.keep (hf4.2.2.2.2 g2 HR3.out.facts.2.2.2.2.1 (fun e => by rcases e with e | e; exact HNE.out.1 e; exact e HR20.out.1)) (hf4.2.2.2.2 g3 HR3.out.facts.2.2.2.2.2 (fun e => by rcases e with e | e; exact HNE.out.2.1 e; exact e HR20.out.2))
    have HK4 : Hid (Kept w w4) := kept_of_kt (S := fun d => w.heap.size ≤ d) (KT.wide (HK3.out.kt _) hf4 (fun d hd e => by rcases e with e | e; rw [e]; exact HNE.out.2.2.2.2.1; exact HRO.out d e)) (fun d h => h)
    have hf0 : f0 ≠ 0 := HXB.out _ rfl
    have e0 : (f0 != 0) = true := by simpa using hf0
    have HK5 := hide1 (HK4.out.alloc #[.int .i64 f0, .int .i64 f1, .string f2] 30)
    have HB5 : Hid (FbB (w4.alloc (.cells #[.int .i64 f0, .int .i64 f1, .string f2] 30)) w4.heap.size f0 f1 f2) := heap_alloc_new w4 _
    have HR5 : Hid (ResB (w4.alloc (.cells #[.int .i64 f0, .int .i64 f1, .string f2] 30)) g2 g3 (.slice none 0 0) (.slice none 0 0) (.int .i64 0) (.slice none 0 0) (.int .i64 0) (.int .i64 0) (.string ⟨#[]⟩)) := HR4.out.keep (heap_alloc_old _ _ HR4.out.facts.2.2.2.2.1) (heap_alloc_old _ _ HR4.out.facts.2.2.2.2.2)
    have HL4 := hide1 (And.intro HR4.out.facts.2.2.2.2.1 HR4.out.facts.2.2.2.2.2)
    have HKS := hide1 HK4.out.size
    clear hf4 hf0 HR4 HK4
    go_upto_region 3 with fail
    obtain ⟨g5, hg5⟩ : ∃ g, w4.heap.size = g := ⟨_, rfl⟩
    generalize w4.alloc (.cells #[.int .i64 f0, .int .i64 f1, .string f2] 30) = W5 at HK5 HB5 HR5 ⊢
    have hn2 : g2 ≠ g5 := fun e => by have := HL4.out.1; omega
    have hn3 : g3 ≠ g5 := fun e => by have := HL4.out.2; omega
    have hn2' : g5 ≠ g2 := fun e => hn2 e.symm
    have hn3' : g5 ≠ g3 := fun e => hn3 e.symm
    rw [hg5] at HB5 ⊢
    have HGW5 := hide1 (show w.heap.size ≤ g5 from by rw [← hg5]; exact HKS.out)
    clear hg5
    obtain ⟨⟨c0, c1, c2⟩, -⟩ := HB5.out.facts
    go_upto_region 4 with fail
    obtain ⟨⟨a0, a1, a2, a3⟩, ⟨b0, b1, b2⟩, za, zb, la, lb⟩ := HR5.out.facts
    have za0 := za 0
    have za1 := za 1
    have za2 := za 2
    have za3 := za 3
    have zb0 := zb 0
    have zb1 := zb 1
    have zb2 := zb 2
    have hne := HR5.out.1
    have hne' : g3 ≠ g2 := fun e => hne e.symm
    clear za zb
    go_region
    have hr6 := HR5.out.set (.slice none 0 0) (.slice none 0 0) (.int .i64 0) (.slice none 0 0) (.int .i64 f0) (.int .i64 f1) (.string f2)
    unfold Gs.set3 Gs.set4 at hr6
    have HR6 := hide1 hr6.drew
    clear hr6
    have hk6 : Kept w (Gs.set3 (Gs.set4 W5 g2 (.slice none 0 0) (.slice none 0 0) (.int .i64 0) (.slice none 0 0)) g3 (.int .i64 f0) (.int .i64 f1) (.string f2)) := kept_of_kt (S := fun _ => False) (KT.set3 (KT.set4 (HK5.out.kt _) (Nat.le_of_eq HG2.out) (.slice none 0 0) (.slice none 0 0) (.int .i64 0) (.slice none 0 0)) (by have h1 := HG3.out; have h2 := HG2.out; omega) (.int .i64 f0) (.int .i64 f1) (.string f2)) (fun d h => h.elim)
    have hk7 := gtrans hk6 (drew_kept _)
    unfold Gs.set3 Gs.set4 at hk7
    have HK6 := hide1 hk7
    clear hk6 hk7
    generalize (((((((W5.setCell ⟨g2, 0, none⟩ (.slice none 0 0)).setCell ⟨g2, 1, none⟩ (.slice none 0 0)).setCell ⟨g2, 2, none⟩ (.int .i64 0)).setCell ⟨g2, 3, none⟩ (.slice none 0 0)).setCell ⟨g3, 0, none⟩ (.int .i64 f0)).setCell ⟨g3, 1, none⟩ (.int .i64 f1)).setCell ⟨g3, 2, none⟩ (.string f2)).drew = W6 at HR6 HK6 ⊢
    go_wp2_with fail
    (try simp only [Exit.inBlock, Exit.then])
    refine bodyPost_ret (spec_results rfl _ _ g2 g3 _ _ _ _ _ _ _ rfl HR6.out.2.1 rfl HR6.out.2.2) rfl ?_
    exact ⟨HK6.out, rfl⟩
  · skip
    obtain ⟨rfl, ρ4, ha4, hw4⟩ := h4
    have HR4 : Hid (ResB w4 g2 g3 (.slice none 0 0) (.slice none 0 0) (.int .i64 0) (.slice none 0 0) (.int .i64 0) (.int .i64 0) (.string ⟨#[]⟩)) := HR3.out.keep (hw4.block HR3.out.facts.2.2.2.2.1 HNE.out.1 HR20.out.1) (hw4.block HR3.out.facts.2.2.2.2.2 HNE.out.2.1 HR20.out.2)
    have HK4 : Hid (Kept w w4) := kept_of_kt (S := fun d => w.heap.size ≤ d) (KT.wide (HK3.out.kt _) hw4.1 (fun d hd e => by rcases e with e | e; rw [e]; exact HNE.out.2.2.2.2.1; exact HRO.out d e)) (fun d h => h)
    have HX4 : Hid (∀ d, ρ4 d ≠ 0 → w.heap.size ≤ d) := fun d hd => by
      by_cases e : w.heap.size ≤ d
      · exact e
      · have h1 := hw4.2 d (by have := HK3.out.size; omega)
        rw [h1] at hd
        exact HRO.out d hd
    have HX20 : Hid (ρ4 g2 = 0 ∧ ρ4 g3 = 0) := ⟨(hw4.2 g2 HR3.out.facts.2.2.2.2.1).trans HR20.out.1, (hw4.2 g3 HR3.out.facts.2.2.2.2.2).trans HR20.out.2⟩
    obtain ⟨⟨la, ln, lc⟩, ⟨na, nn, nc⟩, ⟨pa, pn, pc⟩, xU, m4, its, ps, hb4⟩ := ha4
    have e0 : ((0 : Int) != 0) = false := rfl
    have HK5 := hide1 (HK4.out.alloc #[.int .i64 0, .int .i64 0, .string ⟨#[]⟩] 30)
    have HB5 : Hid (FbB (w4.alloc (.cells #[.int .i64 0, .int .i64 0, .string ⟨#[]⟩] 30)) w4.heap.size 0 0 ⟨#[]⟩) := heap_alloc_new w4 _
    have HR5 : Hid (ResB (w4.alloc (.cells #[.int .i64 0, .int .i64 0, .string ⟨#[]⟩] 30)) g2 g3 (.slice none 0 0) (.slice none 0 0) (.int .i64 0) (.slice none 0 0) (.int .i64 0) (.int .i64 0) (.string ⟨#[]⟩)) := HR4.out.keep (heap_alloc_old _ _ HR4.out.facts.2.2.2.2.1) (heap_alloc_old _ _ HR4.out.facts.2.2.2.2.2)
    obtain ⟨ρ5, hρ5⟩ : ∃ r, ρ4 = r := ⟨_, rfl⟩
    rw [hρ5] at hb4 HX4 HX20
    have HX5 := hide1 (And.intro (hb4.kept ((Kept.refl w4).alloc #[.int .i64 0, .int .i64 0, .string ⟨#[]⟩] 30)) HX4.out)
    clear hw4 HR4 HK4 hb4 hρ5 HX4
    go_upto_region 3 with fail
    obtain ⟨g5, hg5⟩ : ∃ g, w4.heap.size = g := ⟨_, rfl⟩
    generalize w4.alloc (.cells #[.int .i64 0, .int .i64 0, .string ⟨#[]⟩] 30) = W5 at HK5 HB5 HR5 HX5 ⊢
    rw [hg5] at HB5 ⊢
    clear hg5
    obtain ⟨⟨c0, c1, c2⟩, -⟩ := HB5.out.facts
    obtain ⟨⟨a0, a1, a2, a3⟩, ⟨b0, b1, b2⟩, za, zb, la', lb'⟩ := HR5.out.facts
    have za0 := za 0
    have za1 := za 1
    have za2 := za 2
    have za3 := za 3
    have zb0 := zb 0
    have zb1 := zb 1
    have zb2 := zb 2
    have hne := HR5.out.1
    have hne' : g3 ≠ g2 := fun e => hne e.symm
    obtain ⟨⟨-, -, q2, q3, q4, q5, -⟩, -⟩ := HX5.out.1.cells
    dsimp only at q2 q3 q5
    clear za zb
    go_wp2_with fail
    have HH6 : Hid (∀ d, ρ5 d ≠ 0 → ((((((((W5.setCell ⟨g2, 0, none⟩ (.slice la ln lc)).setCell ⟨g2, 1, none⟩ (.slice na nn nc)).setCell ⟨g2, 2, none⟩ (.int .i64 s.st)).setCell ⟨g2, 3, none⟩ (.slice pa pn pc)).setCell ⟨g3, 0, none⟩ (.int .i64 0)).setCell ⟨g3, 1, none⟩ (.int .i64 0)).setCell ⟨g3, 2, none⟩ (.string ⟨#[]⟩))).heap[d]? = W5.heap[d]?) := fun d hd => by
      have h2 : d ≠ g2 := fun e => hd (by rw [e]; exact HX20.out.1)
      have h3 : d ≠ g3 := fun e => hd (by rw [e]; exact HX20.out.2)
      rw [set_heap_ne h3, set_heap_ne h3, set_heap_ne h3, set_heap_ne h2, set_heap_ne h2, set_heap_ne h2, set_heap_ne h2]
    have hr6 := HR5.out.set (.slice la ln lc) (.slice na nn nc) (.int .i64 s.st) (.slice pa pn pc) (.int .i64 0) (.int .i64 0) (.string ⟨#[]⟩)
    unfold Gs.set3 Gs.set4 at hr6
    have HR6 := hide1 hr6
    clear hr6
    have hk6 : Kept w (Gs.set3 (Gs.set4 W5 g2 (.slice la ln lc) (.slice na nn nc) (.int .i64 s.st) (.slice pa pn pc)) g3 (.int .i64 0) (.int .i64 0) (.string ⟨#[]⟩)) := kept_of_kt (S := fun _ => False) (KT.set3 (KT.set4 (HK5.out.kt _) (Nat.le_of_eq HG2.out) (.slice la ln lc) (.slice na nn nc) (.int .i64 s.st) (.slice pa pn pc)) (by have h1 := HG3.out; have h2 := HG2.out; omega) (.int .i64 0) (.int .i64 0) (.string ⟨#[]⟩)) (fun d h => h.elim)
    have hk7 := hk6
    unfold Gs.set3 Gs.set4 at hk7
    have HK6 := hide1 hk7
    clear hk6 hk7
    have HS6 : Hid (SpO w.heap.size ((((((((W5.setCell ⟨g2, 0, none⟩ (.slice la ln lc)).setCell ⟨g2, 1, none⟩ (.slice na nn nc)).setCell ⟨g2, 2, none⟩ (.int .i64 s.st)).setCell ⟨g2, 3, none⟩ (.slice pa pn pc)).setCell ⟨g3, 0, none⟩ (.int .i64 0)).setCell ⟨g3, 1, none⟩ (.int .i64 0)).setCell ⟨g3, 2, none⟩ (.string ⟨#[]⟩))) (.agg #[.slice la ln lc, .slice na nn nc, .int .i64 s.st, .slice pa pn pc]) s) := ⟨(la, ln, lc), (na, nn, nc), (pa, pn, pc), its, ps, ρ5, rfl, HX5.out.1.lex.same (fun d hd => HH6.out d (by rw [HX5.out.1.o1 d hd]; decide)), HX5.out.1.lexR.mono (fun d _ hr => HH6.out d (by rw [hr]; decide)) (fun _ _ h => h) (by simp [World.setCell]), HX5.out.1.nam.same (fun d hd => HH6.out d (by rw [HX5.out.1.o3 d hd]; decide)), HX5.out.1.prd.same (fun d hd => HH6.out d (by rw [HX5.out.1.o4 d hd]; decide)), HX5.out.1.prdR.mono (fun d _ hr => HH6.out d (by rw [hr]; decide)) (fun _ _ h => h), HX5.out.1.o1, HX5.out.1.o3, HX5.out.1.o4, fun d hd => ⟨HX5.out.2 d hd, by have := HX5.out.1.lo d hd; simp [World.setCell]; exact this⟩⟩
    generalize (((((((W5.setCell ⟨g2, 0, none⟩ (.slice la ln lc)).setCell ⟨g2, 1, none⟩ (.slice na nn nc)).setCell ⟨g2, 2, none⟩ (.int .i64 s.st)).setCell ⟨g2, 3, none⟩ (.slice pa pn pc)).setCell ⟨g3, 0, none⟩ (.int .i64 0)).setCell ⟨g3, 1, none⟩ (.int .i64 0)).setCell ⟨g3, 2, none⟩ (.string ⟨#[]⟩)) = W6 at HR6 HK6 HS6 HH6 ⊢
    (try simp only [Exit.inBlock, Exit.then])
    refine bodyPost_ret (spec_results rfl _ _ g2 g3 _ _ _ _ _ _ _ rfl HR6.out.2.1 rfl HR6.out.2.2) rfl ?_
    exact ⟨HK6.out, _, rfl, HS6.out⟩
end Gs
end Ex
end Go.Proofs.YtbnchnlogikecaaGreatDoor
