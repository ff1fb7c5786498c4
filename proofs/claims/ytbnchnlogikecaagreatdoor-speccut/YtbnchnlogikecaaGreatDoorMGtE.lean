import Derived.Test.YtbnchnlogikecaaGreatDoorMGtA
import Derived.Test.YtbnchnlogikecaaGreatDoorMGtD
import Derived.Deep.DeepMust
import Derived.BigQuiet
import Derived.Defers
import Derived.Recover
import Derived.Laws.Pointers
import Derived.Carry
namespace Go.Proofs.YtbnchnlogikecaaGreatDoor
open Go.RowKit
attribute [local go_sem] Oper.semAt_some
set_option linter.unusedVariables false
namespace Ex
namespace Gs
open Sh

theorem next_pl {T : ByteArray} {k : Nat} (hk : k ≤ T.size) (h : (nextM T k).kd ≠ 0) : (nextM T k).pl < (nextM T k).nx := by
  unfold nextM at h ⊢
  split
  · rename_i hl
    split
    · rename_i h2'
      have hp := word_pos hl h2'
      show comB T k < comB T k + _
      omega
    · show comB T k < comB T k + 1
      omega
  · rename_i hl
    rw [if_neg hl] at h
    exact absurd rfl h
/-- Where the token in a box stands. -/
def plW (w : World) (v : Value) : Nat := match v with
  | .pointer (some a) => match w.cell? ⟨a.block, 1, none⟩ with
    | some (.int _ j) => j.toNat
    | _ => 0
  | _ => 0
theorem plW_at {w : World} {g pl : Nat} {kd : Int} {wd : ByteArray} (h : TkB w g kd (pl : Int) wd) : plW w (.pointer (some ⟨g, 0, none⟩)) = pl := by
  unfold plW
  simp [h.facts.1.2.1]
def wholeG (T : ByteArray) (s : RSt) : Except Flt RSt := (stmtsM T (T.size + 1) s).bind fun s => if s.sd = false then .error (63, (T.size : Int), ⟨#[]⟩) else resM s.use s
/-- While statements are read. -/
def RwI (ρ : Nat → Nat) (b : Nat) (T : ByteArray) (w : World) (X : Except Flt RSt) (g : Nat) (wr : World) : Prop :=
  ∃ (s0 : RSt) (ρ1 : Nat → Nat) (f : Nat), stmtsM T (f + 1) s0 = X ∧ T.size ≤ f + s0.k ∧ RdA ρ1 wr b T { s0 with k := (nextM T s0.k).nx } ∧ Went ρ b w ρ1 wr ∧ TkB wr g (nextM T s0.k).kd ((nextM T s0.k).pl : Int) (nextM T s0.k).wd ∧ ρ1 g = 0 ∧ w.heap.size ≤ g ∧ g ≠ b ∧ Wf T s0 ∧ Emp s0 ∧ Wd T s0
theorem stmts_end {T : ByteArray} {f : Nat} {s : RSt} (h : (nextM T s.k).kd = 0) : stmtsM T (f + 1) s = .ok { s with k := (nextM T s.k).nx } := by
  rw [stmtsM, if_pos h]
theorem stmts_on {T : ByteArray} {f : Nat} {s : RSt} (h : (nextM T s.k).kd ≠ 0) : stmtsM T (f + 1) s = (statM T (nextM T s.k) { s with k := (nextM T s.k).nx }).bind fun s1 => stmtsM T f s1 := by
  rw [stmtsM, if_neg h]
theorem RdA.mv {ρ : Nat → Nat} {w w' : World} {b k : Nat} {T : ByteArray} {s : RSt} (h : RdA ρ w b T s) (hm : Mv b k w w') : RdA ρ w' b T { s with k := k } := by
  obtain ⟨xL, xN, xP, xU, m, its, ps, h⟩ := h
  exact (h.mv hm).a
theorem RdA.set {ρ : Nat → Nat} {w : World} {b : Nat} {T : ByteArray} {s : RSt} (h : RdA ρ w b T s) {g : Nat} (hg : ρ g = 0) (hb : g ≠ b) (o : Nat) (v : Value) : RdA ρ (w.setCell ⟨g, o, none⟩ v) b T s := by
  obtain ⟨xL, xN, xP, xU, m, its, ps, h⟩ := h
  exact (h.set hg hb o v).a
theorem RdA.fresh {ρ : Nat → Nat} {w : World} {b : Nat} {T : ByteArray} {s : RSt} (h : RdA ρ w b T s) {d : Nat} (hd : w.heap.size ≤ d) : ρ d = 0 := by
  obtain ⟨xL, xN, xP, xU, m, its, ps, h⟩ := h
  exact h.fresh hd
theorem RdA.ltb {ρ : Nat → Nat} {w : World} {b : Nat} {T : ByteArray} {s : RSt} (h : RdA ρ w b T s) : b < w.heap.size := by
  obtain ⟨xL, xN, xP, xU, m, its, ps, h⟩ := h
  exact h.ltb
theorem RdA.cells {ρ : Nat → Nat} {w : World} {b : Nat} {T : ByteArray} {s : RSt} (h : RdA ρ w b T s) : w.cell? ⟨b, 0, none⟩ = some (.string T) ∧ w.cell? ⟨b, 8, none⟩ = some (.bool s.sd) := by
  obtain ⟨xL, xN, xP, xU, m, its, ps, h⟩ := h
  exact ⟨h.cells.1.1, h.cells.1.2.2.2.2.2.2.2.2⟩

set_option linter.unusedSimpArgs false in
set_option maxRecDepth 100000 in
set_option maxHeartbeats 8000000 in
theorem whole_is (T : ByteArray) (hT : T.size ≤ 100000) (b : Nat) (w : World) (ρ : Nat → Nat) (s : RSt) (h : RdA ρ w b T s) (hf : Wf T s) (he : Emp s) (hwd : Wd T s) :
    Calls Tryz.prog 40 #[.pointer (some ⟨b, 0, none⟩)] w (OutR ρ b T w (wholeG T s)) := by
  obtain ⟨R, hR⟩ : ∃ R, wholeG T s = R := ⟨_, rfl⟩
  rw [hR]
  unfold wholeG at hR
  obtain ⟨X, hX⟩ : ∃ X, stmtsM T (T.size + 1) s = X := ⟨_, rfl⟩
  rw [hX] at hR
  have HR := hide1 hR
  have HX := hide1 hX
  have HT := hide1 hT
  have HNX := hide1 (next_is T hT b)
  have HF := hide1 hf
  have HE := hide1 he
  have HWD := hide1 hwd
  have HA := hide1 h
  have HK0 := hide1 hf.k
  clear hR hX hT hf he hwd h
  obtain ⟨kd2, hkd2⟩ : ∃ x, (nextM T s.k).kd = x := ⟨_, rfl⟩
  obtain ⟨pl2, hpl2⟩ : ∃ x, (nextM T s.k).pl = x := ⟨_, rfl⟩
  obtain ⟨wd2, hwd2⟩ : ∃ x, (nextM T s.k).wd = x := ⟨_, rfl⟩
  have HN0 : Hid (∀ w, ScAt w b T s.k → Calls Tryz.prog 49 #[.pointer (some ⟨b, 0, none⟩)] w fun e w' => e = .returned (.agg #[.int .i64 kd2, .int .i64 (pl2 : Int), .string wd2]) ∧ Mv b (nextM T s.k).nx w w') := fun w h => by
    have h1 := HNX.out s.k w h HK0.out
    rw [hkd2, hpl2, hwd2] at h1
    exact h1
  have HE2 := hide1 hkd2
  have HE3 := hide1 hpl2
  have HE4 := hide1 hwd2
  clear hkd2 hpl2 hwd2
  go_enter Tryz.func40, Tryz.ntmps40
  go_wp2_with (go_at_call 49; go_must (refine (HN0.out _ HA.out.sc).mono ?_; rintro e w3 ⟨rfl, hm3⟩; have HM3 := hide1 hm3; clear hm3))
  have HI0 : Hid (RwI ρ b T w X w3.heap.size (w3.alloc (.cells #[.int .i64 kd2, .int .i64 (pl2 : Int), .string wd2] 104))) := by
    refine ⟨s, ρ, T.size, HX.out, by omega, (HA.out.mv HM3.out).kept ((Kept.refl w3).alloc _ _), ((Went.refl ρ b w).mv HM3.out).kept ((Kept.refl w3).alloc _ _), ?_, (HA.out.mv HM3.out).fresh (Nat.le_refl _), HM3.out.1.2.2.2.1, fun e => by have := (HA.out.mv HM3.out).ltb; omega, HF.out, HE.out, HWD.out⟩
    rw [HE2.out, HE3.out, HE4.out]
    exact fact3 w3 kd2 (pl2 : Int) wd2
  clear HN0 HM3 HE2 HE3 HE4 HX HF HE HWD HA HK0
  go_loopw [2] (fun v2 wr => ∃ g : Nat, v2 = .pointer (some ⟨g, 0, none⟩) ∧ Hid (RwI ρ b T w X g wr)) (fun v2 wr => T.size + 1 - plW wr v2)
  case atStart => exact ⟨_, rfl, HI0.out⟩
  case round =>
    clear HI0
    obtain ⟨g, rfl, hI⟩ := hrel
    obtain ⟨s0, ρ1, f, hq, hfu, ha, hw, ht, hr, hgw, hgb, hf0, he0, hwd0⟩ := hI.out
    have HNF := hide1 (next_facts hf0.k)
    have HNP := hide1 (fun h => next_pl (T := T) hf0.k h)
    have HON := hide1 (fun f h => @stmts_on T f s0 h)
    have HEN := hide1 (fun f h => @stmts_end T f s0 h)
    have HNW := hide1 (show { s0 with k := (nextM T s0.k).nx }.k = (nextM T s0.k).nx from rfl)
    have HWF1 := hide1 (hf0.on HNF.out.2.1 HNF.out.1)
    obtain ⟨N, hN⟩ : ∃ N, nextM T s0.k = N := ⟨_, rfl⟩
    rw [hN] at ha ht HNF HNP HON HEN HWF1
    obtain ⟨kd, pl, wd, nx⟩ := N
    dsimp only at ha ht HNF HNP HON HEN HWF1
    have HA1 := hide1 ha
    have HW1 := hide1 hw
    have HT1 := hide1 ht
    have HR1 := hide1 hr
    have HGW := hide1 hgw
    have HGB := hide1 hgb
    have HQ := hide1 hq
    have HFU := hide1 hfu
    have HE1 : Hid (Emp { s0 with k := nx }) := he0
    have HWD1 : Hid (Wd T { s0 with k := nx }) := ⟨HNF.out.1, hwd0.2⟩
    have HPL := hide1 (plW_at ht)
    clear hI hq hfu ha hw ht hr hgw hgb hf0 he0 hwd0 hN HNW
    obtain ⟨⟨t0, t1, t2⟩, -⟩ := HT1.out.facts
    by_cases hkd : kd = 0
    · subst hkd
      have hx := (HEN.out f rfl).symm.trans HQ.out
      have hR := HR.out
      rw [← hx] at hR
      change (if s0.sd = false then .error (63, (T.size : Int), ⟨#[]⟩) else resM s0.use { s0 with k := nx }) = R at hR
      obtain ⟨r0, r8⟩ := HA1.out.cells
      dsimp only at r8
      by_cases hsd : s0.sd = false
      · rw [if_pos hsd] at hR
        rw [hsd] at r8
        clear hx
        go_wp2_with (go_at_call 51; go_must (refine (fail_is _ _ _ _).mono ?_; rintro e w7 ⟨rfl, hk7⟩; have h9 : OutR ρ b T w R (thrown 63 (T.size : Int) ⟨#[]⟩) w7 := out_err hR.symm (HW1.out.kept hk7).1; unfold thrown at h9 ⊢))
        exact ⟨rfl, h9⟩
      · rw [if_neg hsd] at hR
        have hst : s0.sd = true := by simpa using hsd
        rw [hst] at r8
        have HRS : Hid (∀ w ρ, RdA ρ w b T { s0 with k := nx } → Calls Tryz.prog 52 #[.pointer (some ⟨b, 0, none⟩)] w (OutR ρ b T w R)) := fun w ρ h => by
          rw [← hR]
          exact resolve_is T HT.out b w ρ _ h HWF1.out HE1.out HWD1.out
        clear hx hR hst hsd
        go_wp2_with fail
        go_at_call 52
        refine (HRS.out _ _ HA1.out).mono ?_
        intro e w8 h8
        have h9 := OutR.after HW1.out h8
        rcases R with f | s8
        · obtain ⟨rfl, -⟩ := id h9
          unfold thrown
          go_wp2_with fail
          exact ⟨rfl, h9⟩
        · obtain ⟨rfl, -⟩ := id h9
          go_wp2_with fail
          go_end0
          exact h9
    have ekd : (kd != 0) = true := by simpa using hkd
    obtain ⟨X1, hX1⟩ : ∃ X, statM T ⟨kd, pl, wd, nx⟩ { s0 with k := nx } = X := ⟨_, rfl⟩
    have hq1 := (HON.out f hkd).symm.trans HQ.out
    rw [hX1] at hq1
    have HQ1 := hide1 hq1
    have HST : Hid (∀ w ρ, RdA ρ w b T { s0 with k := nx } → Calls Tryz.prog 50 #[.pointer (some ⟨b, 0, none⟩), .agg #[.int .i64 kd, .int .i64 (pl : Int), .string wd]] w (OutR ρ b T w X1)) := fun w ρ h => by
      rw [← hX1]
      exact stat_is T HT.out b ⟨kd, pl, wd, nx⟩ w ρ _ h HWF1.out (Nat.le_trans HNF.out.2.2.2.2.1 HT.out)
    have HX1 : Hid (∀ s1, X1 = .ok s1 → (Wf T s1 ∧ nx ≤ s1.k) ∧ Emp s1 ∧ Wd T s1) := fun s1 h => ⟨stat_wf HWF1.out (hX1.trans h), stat_emp HE1.out (hX1.trans h), stat_wd HWD1.out (hX1.trans h)⟩
    have HKX := hide1 (HNF.out.2.2.2.2.2 hkd)
    have HPX := hide1 (HNP.out hkd)
    clear hX1 hq1 HON HEN hkd
    go_wp2_with fail
    go_at_call 50
    refine (HST.out _ _ HA1.out).mono ?_
    intro e w4 h4
    rcases X1 with f1 | s1
    · obtain ⟨rfl, hf4⟩ := h4
      have hx : X = .error (f1.1, f1.2.1, f1.2.2) := HQ1.out.symm
      have h9 : OutR ρ b T w R (thrown f1.1 f1.2.1 f1.2.2) w4 := out_err (show R = .error (f1.1, f1.2.1, f1.2.2) from by rw [← HR.out, hx]; rfl) (HW1.out.fr hf4)
      clear hx
      unfold thrown at h9 ⊢
      go_wp2_with fail
      exact ⟨rfl, h9⟩
    obtain ⟨rfl, ρ4, ha4, hw4⟩ := h4
    have HA4 := hide1 ha4
    have HW4 := hide1 (HW1.out.trans hw4)
    have HT4 := hide1 (show TkB w4 g kd (pl : Int) wd from (hw4.block (Array.getElem?_eq_some_iff.1 HT1.out).1 HGB.out HR1.out).trans HT1.out)
    obtain ⟨HF4, HE4, HD4⟩ := HX1.out s1 rfl
    have HF4 := hide1 HF4
    have HE4 := hide1 HE4
    have HD4 := hide1 HD4
    have HNX1 := hide1 (HNX.out s1.k)
    have HNF4 := hide1 (next_facts HF4.out.1.k)
    have hq4 : stmtsM T f s1 = X := HQ1.out
    obtain ⟨f, rfl⟩ : ∃ f', f = f' + 1 := ⟨f - 1, by have := HFU.out; have := HKX.out; have := HNF.out.1; omega⟩
    have HQ4 := hide1 hq4
    clear hq4 ha4 hw4 t0 t1 t2 HST HX1 HA1 HW1 HT1
    obtain ⟨⟨t0, t1, t2⟩, -⟩ := HT4.out.facts
    obtain ⟨N, hN⟩ : ∃ N, nextM T s1.k = N := ⟨_, rfl⟩
    rw [hN] at HNX1 HNF4
    have HN := hide1 hN
    clear hN
    obtain ⟨kd5, pl5, wd5, nx5⟩ := N
    dsimp only at HNX1 HNF4
    have HA5 := hide1 (HA4.out.kept ((Kept.refl w4).alloc #[.int .i64 kd, .int .i64 (pl : Int), .string wd] 104))
    have HW5 := hide1 (HW4.out.kept ((Kept.refl w4).alloc #[.int .i64 kd, .int .i64 (pl : Int), .string wd] 104))
    have HT5 := hide1 (fact3 w4 kd (pl : Int) wd)
    have HG5 := hide1 (HA4.out.fresh (Nat.le_refl _))
    have HG5B := hide1 (show w4.heap.size ≠ b from fun e => by have := HA4.out.ltb; omega)
    have HG5W := hide1 (show w.heap.size ≤ w4.heap.size from HW4.out.1.2.2.2.1)
    go_upto_region 2 with fail
    obtain ⟨g5, hg5⟩ : ∃ x, w4.heap.size = x := ⟨_, rfl⟩
    generalize w4.alloc (.cells #[.int .i64 kd, .int .i64 (pl : Int), .string wd] 104) = W5 at HA5 HW5 HT5 ⊢
    rw [hg5] at HT5 HG5 HG5B HG5W ⊢
    clear hg5 t0 t1 t2
    go_wp2_with fail
    go_at_call 49
    refine (HNX1.out _ HA5.out.sc HF4.out.1.k).mono ?_
    rintro e w6 ⟨rfl, hm6⟩
    have HA6 := hide1 (HA5.out.mv hm6)
    have HW6 := hide1 (HW5.out.mv hm6)
    have HT6 := hide1 (HT5.out.mv hm6 HG5B.out)
    obtain ⟨⟨k0, k1, k2⟩, z0, z1, z2⟩ := HT6.out.facts
    have hlg := (Array.getElem?_eq_some_iff.1 HT6.out).1
    clear hm6
    go_wp2_with fail
    have HT7 := hide1 ((((HT6.out.set kd5 0 ⟨#[]⟩).1.set 0 (pl5 : Int) ⟨#[]⟩).2.1).set 0 0 wd5).2.2
    refine ⟨⟨g5, rfl, ?_⟩, ?_⟩
    · refine ⟨s1, ρ4, f, HQ4.out, by have := HFU.out; have := HKX.out; have := HF4.out.2; omega, ?_, ((HW6.out.set HG5W.out 0 _).set HG5W.out 1 _).set HG5W.out 2 _, ?_, HG5.out, HG5W.out, HG5B.out, HF4.out.1, HE4.out, HD4.out⟩
      · rw [HN.out]
        exact ((HA6.out.set HG5.out HG5B.out 0 _).set HG5.out HG5B.out 1 _).set HG5.out HG5B.out 2 _
      · rw [HN.out]
        exact HT7.out
    · rw [HPL.out, plW_at HT7.out]
      have h1 := HNF4.out.2.2.1
      have h2 := HNF4.out.2.2.2.1
      have h3 := HF4.out.2
      have h4 := HPX.out
      omega

end Gs
end Ex
end Go.Proofs.YtbnchnlogikecaaGreatDoor
namespace Go.Proofs.YtbnchnlogikecaaGreatDoor
open Go.RowKit
attribute [local go_sem] Oper.semAt_some
set_option linter.unusedVariables false
namespace Ex
namespace Gs
open Sh

/-- A fault in its box. -/
def FbB (w : World) (g : Nat) (er at_ : Int) (nm : ByteArray) : Prop := w.heap[g]? = some (.cells #[.int .i64 er, .int .i64 at_, .string nm] 30 (0, 0))
theorem FbB.facts {w : World} {g : Nat} {er at_ : Int} {nm : ByteArray} (h : FbB w g er at_ nm) : (w.cell? ⟨g, 0, none⟩ = some (.int .i64 er) ∧ w.cell? ⟨g, 1, none⟩ = some (.int .i64 at_) ∧ w.cell? ⟨g, 2, none⟩ = some (.string nm)) ∧ w.frozen? ⟨g, 0, none⟩ = false ∧ w.frozen? ⟨g, 1, none⟩ = false ∧ w.frozen? ⟨g, 2, none⟩ = false := by
  unfold FbB at h
  refine ⟨⟨?_, ?_, ?_⟩, ?_, ?_, ?_⟩ <;> simp [World.cell?, World.frozen?, h]
theorem FbB.set {w : World} {g : Nat} {er at_ : Int} {nm : ByteArray} (h : FbB w g er at_ nm) (er' at' : Int) (nm' : ByteArray) : FbB (((w.setCell ⟨g, 0, none⟩ (.int .i64 er')).setCell ⟨g, 1, none⟩ (.int .i64 at')).setCell ⟨g, 2, none⟩ (.string nm')) g er' at' nm' := by
  unfold FbB at h ⊢
  rw [heap_setb (heap_setb (heap_setb h))]
  rfl
theorem FbB.keep {w w' : World} {g : Nat} {er at_ : Int} {nm : ByteArray} (h : FbB w g er at_ nm) (hk : Kept w w') : FbB w' g er at_ nm := (hk.2.2.2.2 g (Array.getElem?_eq_some_iff.1 h).1).trans h
set_option linter.unusedSimpArgs false in
set_option maxRecDepth 100000 in
set_option maxHeartbeats 1600000 in
theorem catch_bad (g : Nat) (er at_ e0 a0 : Int) (nm n0 : ByteArray) (older : List PanicEntry) (w : World) (h : FbB w g e0 a0 n0) :
    CallsD Tryz.prog 48 #[.pointer (some ⟨g, 0, none⟩)] (.panicking ({ v := .iface 30 (.agg #[.int .i64 er, .int .i64 at_, .string nm]), recovered := false } :: older)) w fun e u' w' =>
      e = .returned (.tuple #[]) ∧ u' = .panicking ({ v := .iface 30 (.agg #[.int .i64 er, .int .i64 at_, .string nm]), recovered := true } :: older) ∧ w' = ((w.setCell ⟨g, 0, none⟩ (.int .i64 er)).setCell ⟨g, 1, none⟩ (.int .i64 at_)).setCell ⟨g, 2, none⟩ (.string nm) := by
  obtain ⟨⟨c0, c1, c2⟩, z0, z1, z2⟩ := h.facts
  have hta : ∀ (w : World), (Instr.typeAssert (.iface 30 (.agg #[.int .i64 er, .int .i64 at_, .string nm])) 20 30 false).run Tryz.prog w = .ok (.agg #[.int .i64 er, .int .i64 at_, .string nm]) w := fun w => by kernel_rfl
  refine callsD_of_wpS Tryz.func48 rfl fun c₀ cs hu => ?_
  apply wpS_seq
  apply wpS_region
  simp [wpOpsS, go_sem, recoverD, hu, Tryz.ntmps48, Exit.thenS]
  apply wpS_seq
  apply wpS_region
  simp [wpOpsS, go_sem, recoverD, hu, Exit.thenS]
  refine wpS_cond (t := true) (by simp [Act.eval, Array.replicate]) ?_
  simp only [if_true]
  apply wpS_region
  simp [wpOpsS, go_sem, hta, c0, c1, c2, z0, z1, z2, bodyPostS, results, Tryz.results48]

set_option linter.unusedSimpArgs false in
set_option maxRecDepth 100000 in
set_option maxHeartbeats 1600000 in
theorem catch_idle (g : Nat) (w : World) :
    CallsD Tryz.prog 48 #[.pointer (some ⟨g, 0, none⟩)] .returning w fun e u' w' => e = .returned (.tuple #[]) ∧ u' = .returning ∧ w' = w := by
  refine callsD_of_wpS Tryz.func48 rfl fun c₀ cs hu => ?_
  apply wpS_seq
  apply wpS_region
  simp [wpOpsS, go_sem, recoverD, hu, Tryz.ntmps48, Exit.thenS]
  apply wpS_seq
  apply wpS_region
  simp [wpOpsS, go_sem, recoverD, hu, Exit.thenS]
  refine wpS_cond (t := false) (by simp [Act.eval, Array.replicate]) ?_
  simp only [Bool.false_eq_true, if_false]
  refine wpS_of_wp (wp_skip ?_)
  cases c₀
  simp_all [bodyPostS, results, Tryz.results48]
/-- What caught tells of the reader. -/
def OutC (ρ : Nat → Nat) (b : Nat) (T : ByteArray) (w : World) (x : Except Flt RSt) (e : Ending) (w' : World) : Prop :=
  match x with
  | .ok s => e = .returned (.agg #[.int .i64 0, .int .i64 0, .string ⟨#[]⟩]) ∧ ∃ ρ', RdA ρ' w' b T s ∧ Went ρ b w ρ' w'
  | .error f => e = .returned (.agg #[.int .i64 f.1, .int .i64 f.2.1, .string f.2.2]) ∧ Fr ρ b w w'
set_option linter.unusedSimpArgs false in
set_option maxRecDepth 100000 in
set_option maxHeartbeats 4000000 in
theorem caughtR_is (T : ByteArray) (hT : T.size ≤ 100000) (b : Nat) (w : World) (ρ : Nat → Nat) (s : RSt) (h : RdA ρ w b T s) (hf : Wf T s) (he : Emp s) (hwd : Wd T s) :
    Calls Tryz.prog 39 #[.func (.func 40) #[.pointer (some ⟨b, 0, none⟩)] #[]] w (OutC ρ b T w (wholeG T s)) := by
  have hmf : ∀ (fn : Fn) (first cap : Array Value) (w : World), (Instr.makeFunc fn first cap).run Tryz.prog w = .ok (.func fn first cap) w := fun _ _ _ _ => rfl
  obtain ⟨X, hX⟩ : ∃ X, wholeG T s = X := ⟨_, rfl⟩
  rw [hX]
  have HWH : Hid (∀ w ρ, RdA ρ w b T s → Calls Tryz.prog 40 #[.pointer (some ⟨b, 0, none⟩)] w (OutR ρ b T w X)) := fun w ρ h => by
    rw [← hX]
    exact whole_is T hT b w ρ s h hf he hwd
  have HG := hide1 (h.fresh (Nat.le_refl _))
  have HGB := hide1 (show w.heap.size ≠ b from fun e => by have := h.ltb; omega)
  have HA1 := hide1 (h.kept ((Kept.refl w).alloc #[.int .i64 0, .int .i64 0, .string ⟨#[]⟩] 30))
  have HW1 := hide1 ((Went.refl ρ b w).kept ((Kept.refl w).alloc #[.int .i64 0, .int .i64 0, .string ⟨#[]⟩] 30))
  have HB1 : Hid (FbB (w.alloc (.cells #[.int .i64 0, .int .i64 0, .string ⟨#[]⟩] 30)) w.heap.size 0 0 ⟨#[]⟩) := heap_alloc_new w _
  clear hX hT h hf he hwd
  go_enter_defers Tryz.func39, Tryz.ntmps39
  go_upto_region 1 with fail
  obtain ⟨g, hg⟩ : ∃ g, w.heap.size = g := ⟨_, rfl⟩
  generalize w.alloc (.cells #[.int .i64 0, .int .i64 0, .string ⟨#[]⟩] 30) = W1 at HA1 HW1 HB1 ⊢
  rw [hg] at HB1 HG HGB ⊢
  have HGW := hide1 (Nat.le_of_eq hg)
  clear hg
  go_wp2_with fail
  go_at_call 40
  refine (HWH.out _ _ HA1.out).mono ?_
  intro e w2 h2
  rcases X with f | s2
  · obtain ⟨rfl, hf2⟩ := h2
    obtain ⟨f0, f1, f2⟩ := f
    have HB2 := hide1 (show FbB w2 g 0 0 ⟨#[]⟩ from (hf2.2.2.2.2 g (Array.getElem?_eq_some_iff.1 HB1.out).1 (fun e => by rcases e with e | e; exact HGB.out e; exact e HG.out)).trans HB1.out)
    have HF2 := hide1 (HW1.out.fr hf2)
    clear hf2
    unfold thrown
    go_wp2_with fail
    refine leaves_cons (f := 48) (args := #[.pointer (some ⟨g, 0, none⟩)]) (by simp) (by simp [go_sem]) ?_
    refine (catch_bad g _ _ 0 0 _ ⟨#[]⟩ _ _ HB2.out).mono ?_
    rintro e u' w'' ⟨rfl, rfl, rfl⟩
    have HB3 := hide1 (HB2.out.set f0 f1 f2)
    have HF3 := hide1 (show Fr ρ b w (((w2.setCell ⟨g, 0, none⟩ (.int .i64 f0)).setCell ⟨g, 1, none⟩ (.int .i64 f1)).setCell ⟨g, 2, none⟩ (.string f2)) from KT.wide (KT.wide (KT.wide HF2.out (set_kt _ _ _ _) (fun d hd hs => by have := HGW.out; omega)) (set_kt _ _ _ _) (fun d hd hs => by have := HGW.out; omega)) (set_kt _ _ _ _) (fun d hd hs => by have := HGW.out; omega))
    dsimp only at HB3 HF3 ⊢
    generalize ((w2.setCell ⟨g, 0, none⟩ (.int .i64 f0)).setCell ⟨g, 1, none⟩ (.int .i64 f1)).setCell ⟨g, 2, none⟩ (.string f2) = W3 at HB3 HF3 ⊢
    obtain ⟨⟨c0, c1, c2⟩, -⟩ := HB3.out.facts
    simp [Leaves, settle, results, Tryz.results39, go_sem, c0, c1, c2]
    exact ⟨rfl, HF3.out⟩
  · obtain ⟨rfl, ρ2, ha2, hw2⟩ := h2
    have HB2 := hide1 (show FbB w2 g 0 0 ⟨#[]⟩ from (hw2.block (Array.getElem?_eq_some_iff.1 HB1.out).1 HGB.out HG.out).trans HB1.out)
    have HG2 := hide1 ((hw2.2 g (Array.getElem?_eq_some_iff.1 HB1.out).1).trans HG.out)
    have HA2 := hide1 ha2
    have HW2 := hide1 (HW1.out.trans hw2)
    obtain ⟨⟨c0, c1, c2⟩, z0, z1, z2⟩ := HB2.out.facts
    have hlg := (Array.getElem?_eq_some_iff.1 HB2.out).1
    clear ha2 hw2
    go_wp2_with fail
    have HB3 := hide1 (HB2.out.set 0 0 ⟨#[]⟩)
    have HA3 := hide1 (((HA2.out.set HG2.out HGB.out 0 (.int .i64 0)).set HG2.out HGB.out 1 (.int .i64 0)).set HG2.out HGB.out 2 (.string ⟨#[]⟩))
    have HW3 := hide1 (((HW2.out.set HGW.out 0 (.int .i64 0)).set HGW.out 1 (.int .i64 0)).set HGW.out 2 (.string ⟨#[]⟩))
    clear c0 c1 c2 z0 z1 z2 hlg
    generalize ((w2.setCell ⟨g, 0, none⟩ (.int .i64 0)).setCell ⟨g, 1, none⟩ (.int .i64 0)).setCell ⟨g, 2, none⟩ (.string ⟨#[]⟩) = W3 at HB3 HA3 HW3 ⊢
    refine leaves_cons (f := 48) (args := #[.pointer (some ⟨g, 0, none⟩)]) (by simp) (by simp [go_sem]) ?_
    refine (catch_idle g _).mono ?_
    rintro e u' w'' ⟨rfl, rfl, rfl⟩
    obtain ⟨⟨c0, c1, c2⟩, -⟩ := HB3.out.facts
    simp [Leaves, settle, results, Tryz.results39, go_sem, c0, c1, c2]
    exact ⟨rfl, ρ2, HA3.out, HW3.out⟩

end Gs
end Ex
end Go.Proofs.YtbnchnlogikecaaGreatDoor
namespace Go.Proofs.YtbnchnlogikecaaGreatDoor
open Go.RowKit Go.Maps
attribute [local go_sem] Oper.semAt_some
set_option linter.unusedVariables false
namespace Ex
namespace Gs
open Sh

/-- A fault is none that is 0. -/
def Bad {α : Type} (x : Except Flt α) : Prop := ∀ f, x = .error f → f.1 ≠ 0
theorem Bad.bind {α β : Type} {x : Except Flt α} {g : α → Except Flt β} (h : Bad x) (hg : ∀ a, x = .ok a → Bad (g a)) : Bad (x.bind g) := fun f hf => by
  rcases bind_err hf with h1 | ⟨a, h1, h2⟩
  · exact h f h1
  · exact hg a h1 f h2
theorem bad_ok {α : Type} {a : α} : Bad (.ok a : Except Flt α) := fun f h => by cases h
theorem bad_err {α : Type} {e : Flt} (h : e.1 ≠ 0) : Bad (.error e : Except Flt α) := fun f hf => by cases hf; exact h
theorem bad_lit {α : Type} {e a : Int} {n : ByteArray} (h : e ≠ 0) : Bad (.error (e, a, n) : Except Flt α) := bad_err h
theorem give_bad {N : Tok} {sk sn : Int} {s : RSt} : Bad (giveM N sk sn s) := by
  unfold giveM
  split
  · rename_i h; exact bad_err h
  · split
    · exact bad_lit (by decide)
    · exact bad_ok
theorem sign_badM {T : ByteArray} {c : Int} {s : RSt} : Bad (signM T c s) := by
  unfold signM
  split
  · exact bad_ok
  · exact bad_lit (by decide)
theorem pat_bad {T : ByteArray} {k : Nat} : Bad (patM T k) := by
  unfold patM
  split
  · split
    · exact bad_lit (by decide)
    · split
      · exact bad_ok
      · exact bad_lit (by decide)
  · exact bad_lit (by decide)
theorem partM_bad {T : ByteArray} {k : Nat} : Bad (partM T k) := by
  unfold partM
  split
  · exact bad_ok
  · rename_i h; exact bad_err h
theorem rule_bad {T : ByteArray} {pl : Int} {tr : Bool} {s : RSt} : Bad (ruleM T pl tr s) := by
  unfold ruleM
  split
  · exact bad_lit (by decide)
  · exact give_bad.bind fun _ _ => sign_badM.bind fun _ _ => pat_bad.bind fun _ _ => sign_badM
theorem start_bad {T : ByteArray} {pl : Int} {s : RSt} : Bad (startM T pl s) := by
  unfold startM
  split
  · exact bad_lit (by decide)
  · split
    · rename_i h; exact bad_err h
    · exact sign_badM
theorem side_bad {T : ByteArray} {pr : Int} : ∀ (f n : Nat) (N : Tok) (s : RSt), Bad (sideM T pr f n N s)
  | 0, n, N, s => bad_ok
  | f + 1, n, N, s => by
    unfold sideM
    split
    · split
      · exact bad_lit (by decide)
      · exact partM_bad.bind fun _ _ => side_bad f _ _ _
    · exact bad_ok
theorem right_bad {T : ByteArray} {left : Int} {s : RSt} : Bad (rightM T left s) := by
  unfold rightM
  refine partM_bad.bind fun N _ => ?_
  split
  · exact bad_lit (by decide)
  · exact side_bad _ _ _ _
theorem sides_bad {T : ByteArray} {left : Int} : ∀ (f : Nat) (s : RSt), Bad (sidesM T left f s)
  | 0, s => bad_ok
  | f + 1, s => by
    unfold sidesM
    refine right_bad.bind fun r _ => ?_
    split
    · exact sides_bad f _
    · exact bad_ok
theorem stat_bad {T : ByteArray} {N : Tok} {s : RSt} : Bad (statM T N s) := by
  unfold statM
  split
  · exact rule_bad
  · split
    · exact rule_bad
    · split
      · exact start_bad
      · unfold nontM
        refine give_bad.bind fun _ _ => ?_
        split
        · exact bad_lit (by decide)
        · exact sign_badM.bind fun _ _ => sides_bad _ _
theorem stmts_bad {T : ByteArray} : ∀ (f : Nat) (s : RSt), Bad (stmtsM T f s)
  | 0, s => bad_ok
  | f + 1, s => by
    unfold stmtsM
    split
    · exact bad_ok
    · exact stat_bad.bind fun _ _ => stmts_bad f _
theorem res_bad : ∀ (us : List Use) (s : RSt), Bad (resM us s)
  | [], s => bad_ok
  | u :: us, s => by
    unfold resM
    split
    · exact res_bad us _
    · split
      · exact res_bad us _
      · exact bad_lit (by decide)
theorem whole_bad {T : ByteArray} {s : RSt} : Bad (wholeG T s) := by
  unfold wholeG
  refine (stmts_bad _ _).bind fun s _ => ?_
  split
  · exact bad_lit (by decide)
  · exact res_bad _ _

/-- A spec that was answered, in memory of its own (behind base). -/
def SpO (base : Nat) (w : World) (v : Value) (s : RSt) : Prop := ∃ (xL xN xP : SlV) (its : List LexM) (ps : List PrdM) (ρ : Nat → Nat), v = .agg #[val xL, val xN, .int .i64 s.st, val xP] ∧ LO lexE w 0 (val xL) its ∧ LexR ρ w its s.lex ∧ LO strE w 0 (val xN) s.nam ∧ LO prdE w 0 (val xP) ps ∧ PrdR ρ w ps s.prd s.sds ∧
  Own ρ (val xL) 1 ∧ Own ρ (val xN) 3 ∧ Own ρ (val xP) 4 ∧ ∀ d, ρ d ≠ 0 → base ≤ d ∧ d < w.heap.size
theorem SpO.keep {base : Nat} {w w' : World} {v : Value} {s : RSt} (h : SpO base w v s) (hk : Kept w w') : SpO base w' v s := by
  obtain ⟨xL, xN, xP, its, ps, ρ, e, h1, h2, h3, h4, h5, h6, h7, h8, h9⟩ := h
  exact ⟨xL, xN, xP, its, ps, ρ, e, h1.keep hk, h2.mono (fun d hd _ => hk.2.2.2.2 d hd) (fun _ _ h => h) hk.size, h3.keep hk, h4.keep hk, h5.mono (fun d hd _ => hk.2.2.2.2 d hd) (fun _ _ h => h), h6, h7, h8, fun d hd => ⟨(h9 d hd).1, Nat.lt_of_lt_of_le (h9 d hd).2 hk.size⟩⟩
def fltV (f : Flt) : Value := .agg #[.int .i64 f.1, .int .i64 f.2.1, .string f.2.2]
def noV : Value := .agg #[.slice none 0 0, .slice none 0 0, .int .i64 0, .slice none 0 0]
def okV : Value := .agg #[.int .i64 0, .int .i64 0, .string ⟨#[]⟩]
/-- What Parse answers. -/
def OutQ (w : World) (x : Except Flt RSt) (e : Ending) (w' : World) : Prop :=
  Kept w w' ∧ match x with
  | .ok s => ∃ v, e = .returned (.tuple #[v, okV]) ∧ SpO w.heap.size w' v s
  | .error f => e = .returned (.tuple #[noV, fltV f])
theorem spec_results {fn : Func} {p q : Tmp} (h : fn.results = #[.cell p 27, .cell q 30]) (tmps : Array Value) (w : World) (g g' : Nat) (x0 x1 x2 x3 y0 y1 y2 : Value)
    (hp : tmps.getD p undef = .pointer (some ⟨g, 0, none⟩)) (hg : w.heap[g]? = some (.cells #[x0, x1, x2, x3] 27 (0, 0)))
    (hp' : tmps.getD q undef = .pointer (some ⟨g', 0, none⟩)) (hg' : w.heap[g']? = some (.cells #[y0, y1, y2] 30 (0, 0))) :
    (results fn tmps).run Tryz.prog w = .ok (.tuple #[.agg #[x0, x1, x2, x3], .agg #[y0, y1, y2]]) w := by
  have hp2 : tmps[p]?.getD undef = .pointer (some ⟨g, 0, none⟩) := by simpa using hp
  have hp3 : tmps[q]?.getD undef = .pointer (some ⟨g', 0, none⟩) := by simpa using hp'
  have e1 := run_loadVar_row (P := Tryz.prog) w g 27 27 _ (0, 0) _ hg Tryz.underlying27 rfl (by kernel_rfl)
  have e2 := run_loadVar_row (P := Tryz.prog) w g' 30 30 _ (0, 0) _ hg' Tryz.underlying30 rfl (by kernel_rfl)
  simp [results, h, hp2, hp3, asAddr, e1, e2]
/-- The two results' boxes. -/
def ResB (w : World) (g g' : Nat) (x0 x1 x2 x3 y0 y1 y2 : Value) : Prop := g ≠ g' ∧ w.heap[g]? = some (.cells #[x0, x1, x2, x3] 27 (0, 0)) ∧ w.heap[g']? = some (.cells #[y0, y1, y2] 30 (0, 0))
theorem ResB.facts {w : World} {g g' : Nat} {x0 x1 x2 x3 y0 y1 y2 : Value} (h : ResB w g g' x0 x1 x2 x3 y0 y1 y2) : (w.cell? ⟨g, 0, none⟩ = some x0 ∧ w.cell? ⟨g, 1, none⟩ = some x1 ∧ w.cell? ⟨g, 2, none⟩ = some x2 ∧ w.cell? ⟨g, 3, none⟩ = some x3) ∧ (w.cell? ⟨g', 0, none⟩ = some y0 ∧ w.cell? ⟨g', 1, none⟩ = some y1 ∧ w.cell? ⟨g', 2, none⟩ = some y2) ∧ (∀ o, w.frozen? ⟨g, o, none⟩ = false) ∧ (∀ o, w.frozen? ⟨g', o, none⟩ = false) ∧ g < w.heap.size ∧ g' < w.heap.size := by
  obtain ⟨_, h1, h2⟩ := h
  refine ⟨⟨?_, ?_, ?_, ?_⟩, ⟨?_, ?_, ?_⟩, fun o => ?_, fun o => ?_, (Array.getElem?_eq_some_iff.1 h1).1, (Array.getElem?_eq_some_iff.1 h2).1⟩ <;> simp [World.cell?, World.frozen?, h1, h2]
theorem ResB.keep {w w' : World} {g g' : Nat} {x0 x1 x2 x3 y0 y1 y2 : Value} (h : ResB w g g' x0 x1 x2 x3 y0 y1 y2) (hg : w'.heap[g]? = w.heap[g]?) (hg' : w'.heap[g']? = w.heap[g']?) : ResB w' g g' x0 x1 x2 x3 y0 y1 y2 := ⟨h.1, hg.trans h.2.1, hg'.trans h.2.2⟩
def set4 (w : World) (g : Nat) (x0 x1 x2 x3 : Value) : World := (((w.setCell ⟨g, 0, none⟩ x0).setCell ⟨g, 1, none⟩ x1).setCell ⟨g, 2, none⟩ x2).setCell ⟨g, 3, none⟩ x3
def set3 (w : World) (g : Nat) (x0 x1 x2 : Value) : World := ((w.setCell ⟨g, 0, none⟩ x0).setCell ⟨g, 1, none⟩ x1).setCell ⟨g, 2, none⟩ x2
theorem ResB.set {w : World} {g g' : Nat} {x0 x1 x2 x3 y0 y1 y2 : Value} (h : ResB w g g' x0 x1 x2 x3 y0 y1 y2) (a0 a1 a2 a3 b0 b1 b2 : Value) : ResB (set3 (set4 w g a0 a1 a2 a3) g' b0 b1 b2) g g' a0 a1 a2 a3 b0 b1 b2 := by
  obtain ⟨hn, h1, h2⟩ := h
  have k1 : (set4 w g a0 a1 a2 a3).heap[g]? = some (.cells #[a0, a1, a2, a3] 27 (0, 0)) := by
    unfold set4
    rw [heap_setb (heap_setb (heap_setb (heap_setb h1)))]
    rfl
  have k2 : (set4 w g a0 a1 a2 a3).heap[g']? = some (.cells #[y0, y1, y2] 30 (0, 0)) := by
    unfold set4
    rw [set_heap_ne hn.symm, set_heap_ne hn.symm, set_heap_ne hn.symm, set_heap_ne hn.symm]
    exact h2
  refine ⟨hn, ?_, ?_⟩
  · unfold set3
    rw [set_heap_ne hn, set_heap_ne hn, set_heap_ne hn]
    exact k1
  · unfold set3
    rw [heap_setb (heap_setb (heap_setb k2))]
    rfl
theorem KT.set3 {S : Nat → Prop} {w w' : World} (h : KT S w w') {g : Nat} (hg : w.heap.size ≤ g) (x0 x1 x2 : Value) : KT S w (Gs.set3 w' g x0 x1 x2) :=
  KT.wide (KT.wide (KT.wide h (set_kt _ _ _ _) (fun d hd hs => by omega)) (set_kt _ _ _ _) (fun d hd hs => by omega)) (set_kt _ _ _ _) (fun d hd hs => by omega)
theorem KT.set4 {S : Nat → Prop} {w w' : World} (h : KT S w w') {g : Nat} (hg : w.heap.size ≤ g) (x0 x1 x2 x3 : Value) : KT S w (Gs.set4 w' g x0 x1 x2 x3) :=
  KT.wide (KT.wide (KT.wide (KT.wide h (set_kt _ _ _ _) (fun d hd hs => by omega)) (set_kt _ _ _ _) (fun d hd hs => by omega)) (set_kt _ _ _ _) (fun d hd hs => by omega)) (set_kt _ _ _ _) (fun d hd hs => by omega)
theorem kept_of_kt {S : Nat → Prop} {w w' : World} (h : KT S w w') (hS : ∀ d, S d → w.heap.size ≤ d) : Kept w w' := ⟨h.1, h.2.1, h.2.2.1, h.2.2.2.1, fun d hd => h.2.2.2.2 d hd (fun hs => by have := hS d hs; omega)⟩
/-- The reader at the beginning. -/
theorem reader_new {w : World} {b m : Nat} {T : ByteArray} (hb : w.heap[b]? = some (.cells #[.string T, .int .i64 0, .slice none 0 0, .slice none 0 0, .int .i64 0, .slice none 0 0, .map (some m), .slice none 0 0, .bool false] 89 (0, 0))) (hm : GMap w m 1 st0.giv) (hne : b ≠ m) :
    RdA (fun d => if d = m then 6 else 0) w b T st0 :=
  ⟨(none, 0, 0), (none, 0, 0), (none, 0, 0), (none, 0, 0), m, [], [],
    { box := hb
      lex := LO.nil _ _
      lexR := LexR.nil _ _
      nam := LO.nil _ _
      prd := LO.nil _ _
      prdR := PrdR.nil _ _
      use := LO.nil _ _
      giv := hm
      o1 := fun d h => by cases h
      o3 := fun d h => by cases h
      o4 := fun d h => by cases h
      o5 := fun d h => by cases h
      o6 := if_pos rfl
      o0 := if_neg hne
      lo := fun d hd => by
        by_cases e : d = m
        · rw [e]; exact hm.lt
        · rw [if_neg e] at hd; exact absurd rfl hd }⟩

end Gs
end Ex
end Go.Proofs.YtbnchnlogikecaaGreatDoor
