import Derived.Test.YtbnchnlogikecaaGreatDoorPSpSz2
import Derived.Test.YtbnchnlogikecaaGreatDoorPExKl
import Derived.Test.YtbnchnlogikecaaGreatDoorPGt1
import Derived.Deep.DeepMust
import Derived.BigQuiet
import Derived.Deep.RegionHeld3
import Derived.Test.YtbnchnlogikecaaGreatDoorPExRd9
import Derived.Test.YtbnchnlogikecaaGreatDoorPExO6
namespace Go.Proofs.YtbnchnlogikecaaGreatDoor
open Go.RowKit
attribute [local go_sem] Oper.semAt_some
set_option linter.unusedVariables false
set_option linter.unusedSimpArgs false
set_option maxRecDepth 100000
set_option maxHeartbeats 4000000
namespace Ex
namespace Gs
open Sh
theorem sym_f0 (x y : Int) (w : World) : (Instr.field 77 (.agg #[.int .i64 x, .int .i64 y]) 0).run Tryz.prog w = .ok (.int .i64 x) w := by kernel_rfl
theorem give_is (T : ByteArray) (b : Nat) (N : Tok) (sk sn : Int) (w : World) (ρ : Nat → Nat) (s : RSt) (h : RdA ρ w b T s) (hwd : N.wd.size ≤ 100000) (hgn : s.gn ≤ 100000) :
    Calls Tryz.prog 89 #[.pointer (some ⟨b, 0, none⟩), .agg #[.int .i64 N.kd, .int .i64 (N.pl : Int), .string N.wd], .agg #[.int .i64 sk, .int .i64 sn]] w (OutR ρ b T w (giveM N sk sn s)) := by
  obtain ⟨xL, xN, xP, xU, m, its, ps, h⟩ := h
  obtain ⟨kd, pl, wd, nx⟩ := N
  dsimp only at hwd ⊢
  obtain ⟨R, hR⟩ : ∃ R, giveM ⟨kd, pl, wd, nx⟩ sk sn s = R := ⟨_, rfl⟩
  rw [hR]
  unfold giveM at hR
  dsimp only at hR
  by_cases hn : nmE kd wd = 0
  · rw [if_neg (by omega)] at hR
    have HR := hide1 hR
    have HN := hide1 hn
    have HWD := hide1 hwd
    have HGN := hide1 hgn
    obtain ⟨⟨gk, gn⟩, hg⟩ : ∃ x, given s.giv wd = x := ⟨_, rfl⟩
    have HG := hide1 hg
    have HB := hide1 h
    have HW0 := hide1 (Went.refl ρ b w)
    clear hR hn hwd hgn hg h
    go_enter Tryz.func89, Tryz.ntmps89
    have HK1 := hide1 ((Kept.refl w).alloc #[.int .i64 kd, .int .i64 (pl : Int), .string wd] 104)
    have HT1 := hide1 (fact3 w kd (pl : Int) wd)
    go_upto_region 1 with fail
    have HK2 := hide1 (gtrans HK1.out ((Kept.refl _).alloc #[.int .i64 sk, .int .i64 sn] 77))
    have HT2 := hide1 (HT1.out.keep ((Kept.refl _).alloc #[.int .i64 sk, .int .i64 sn] 77))
    have HS2 : Hid (SyB ((w.alloc (.cells #[.int .i64 kd, .int .i64 (pl : Int), .string wd] 104)).alloc (.cells #[.int .i64 sk, .int .i64 sn] 77)) (w.heap.size + 1) sk sn) := by
      have h := sy_new (w.alloc (.cells #[.int .i64 kd, .int .i64 (pl : Int), .string wd] 104)) sk sn
      rw [World.size_alloc] at h
      exact h
    obtain ⟨g5, hg5⟩ : ∃ g5, w.heap.size + 1 = g5 := ⟨_, rfl⟩
    rw [hg5] at HS2 ⊢
    obtain ⟨g4, hg4⟩ : ∃ g4, w.heap.size = g4 := ⟨_, rfl⟩
    generalize (w.alloc (.cells #[.int .i64 kd, .int .i64 (pl : Int), .string wd] 104)).alloc (.cells #[.int .i64 sk, .int .i64 sn] 77) = W2 at HK2 HT2 HS2 ⊢
    rw [hg4] at HT2 ⊢
    clear hg4 hg5 HK1 HT1
    have HB2 := hide1 (HB.out.kept HK2.out)
    have HW2 := hide1 (HW0.out.kept HK2.out)
    obtain ⟨⟨t0, t1, t2⟩, -⟩ := HT2.out.facts
    go_upto_region 2 with (go_at_call 107; go_must (refine (checkName_ok _ _ _ _ HN.out).mono ?_; rintro e W3 ⟨rfl, hk3⟩; have HB3 := hide1 (HB2.out.kept hk3); have HW3 := hide1 (HW2.out.kept hk3); have HT3 := hide1 (HT2.out.keep hk3); have HS3 := hide1 (HS2.out.keep hk3); clear hk3))
    clear t0 t1 t2
    refine wp_region_held_drew (S := fun w' => Kept W3 w') (by kernel_rfl) (drew_kept _) (fun hHeld => ?_)
    refine tkH 0 (.pointer (some ⟨b, 0, none⟩)) rfl (fun w' hSw => ?_) ?_
    · clear hSw
      go_simp
    try simp only [layS]
    refine tkH 1 (.pointer (some ⟨b, 0, none⟩)) rfl (fun w' hSw => ?_) ?_
    · clear hSw
      go_simp
    try simp only [layS]
    refine tkH 2 (.pointer (some ⟨b, 6, none⟩)) rfl (fun w' hSw => ?_) ?_
    · clear hSw
      go_simp
    try simp only [layS]
    refine tkH 3 (.map (some m)) rfl (fun w' hSw => ?_) ?_
    · obtain ⟨⟨q0, q1, q2, q3, q4, q5, q6, q7, q8⟩, -⟩ := (HB3.out.kept hSw).cells
      go_simp
    try simp only [layS]
    refine tkH 4 (.pointer (some ⟨g4, 2, none⟩)) rfl (fun w' hSw => ?_) ?_
    · clear hSw
      go_simp
    try simp only [layS]
    refine tkH 5 (.string wd) rfl (fun w' hSw => ?_) ?_
    · obtain ⟨⟨q0, q1, q2⟩, -⟩ := (HT3.out.keep hSw).facts
      go_simp
    try simp only [layS]
    refine tkH 6 (.agg #[.int .i64 gk, .int .i64 gn]) rfl (fun w' hSw => ?_) ?_
    · have hlk := (HB3.out.kept hSw).giv.look HWD.out; rw [HG.out] at hlk; clear hSw
      go_simp
    try simp only [layS]
    refine tkH 7 (.int .i64 gk) rfl (fun w' hSw => ?_) ?_
    · have hf0 := sym_f0 gk gn; clear hSw
      go_simp
    try simp only [layS]
    refine tkH 8 (.bool (gk != 0)) rfl (fun w' hSw => ?_) ?_
    · clear hSw
      go_simp
    try simp only [layS]
    refine wpAnyH_done (by kernel_rfl) ?_ _
    clear hHeld
    have HB4 := hide1 (HB3.out.kept (drew_kept _))
    have HW4 := hide1 (HW3.out.kept (drew_kept _))
    have HT4 := hide1 (HT3.out.keep (drew_kept _))
    have HS4 := hide1 (HS3.out.keep (drew_kept _))
    generalize W3.drew = W4 at HB4 HW4 HT4 HS4 ⊢
    by_cases h61 : gk = 0
    case neg =>
      have e1 : (gk != 0) = true := by simpa using h61
      have hR := HR.out
      rw [HG.out, if_pos h61] at hR
      obtain ⟨⟨t0, t1, t2⟩, -⟩ := HT4.out.facts
      go_wp2_with (go_at_call 51; go_must (refine (fail_is _ _ _ _).mono ?_; rintro e w7 ⟨rfl, hk7⟩; have h9 : OutR ρ b T w R (thrown 61 (pl : Int) wd) w7 := out_err hR.symm (HW4.out.kept hk7).1; unfold thrown at h9 ⊢))
      exact ⟨rfl, h9⟩
    have e1 : (gk != 0) = false := by simpa using h61
    have hR := HR.out
    rw [HG.out, if_neg (by simpa using h61)] at hR
    have HR2 := hide1 hR
    clear hR HR h61
    go_upto_region 4 with fail
    refine z_region (S := fun w' => Kept W4 w') 7 (by kernel_rfl) (drew_kept _) (fun hHeld => ?_)
    refine tkZ 0 (.pointer (some ⟨b, 0, none⟩)) [1, 2, 3, 7] rfl (fun w' hSw => ?_) ?_
    · clear hSw
      go_simp
    try simp only [layS]
    refine tkZ 1 (.pointer (some ⟨b, 0, none⟩)) [2, 3, 7] rfl (fun w' hSw => ?_) ?_
    · clear hSw
      go_simp
    try simp only [layS]
    refine tkZ 2 (.pointer (some ⟨b, 6, none⟩)) [3, 7] rfl (fun w' hSw => ?_) ?_
    · clear hSw
      go_simp
    try simp only [layS]
    refine tkZ 3 (.map (some m)) [7] rfl (fun w' hSw => ?_) ?_
    · obtain ⟨⟨q0, q1, q2, q3, q4, q5, q6, q7, q8⟩, -⟩ := (HB4.out.kept hSw).cells
      go_simp
    try simp only [layS]
    refine tkZ 4 (.pointer (some ⟨g4, 2, none⟩)) [5, 7] rfl (fun w' hSw => ?_) ?_
    · clear hSw
      go_simp
    try simp only [layS]
    refine tkZ 5 (.string wd) [7] rfl (fun w' hSw => ?_) ?_
    · obtain ⟨⟨q0, q1, q2⟩, -⟩ := (HT4.out.keep hSw).facts
      go_simp
    try simp only [layS]
    refine tkZ 6 (.agg #[.int .i64 sk, .int .i64 sn]) [7] rfl (fun w' hSw => ?_) ?_
    · obtain ⟨⟨q0, q1⟩, -⟩ := (HS4.out.keep hSw).facts
      go_simp
    try simp only [layS]
    refine z_last (by kernel_rfl) (by kernel_rfl) rfl (fun K hK => ?_)
    refine step_putG rfl _ _ _ rfl m s.gn s.giv (by rfl) (HB4.out.kept hHeld).giv HGN.out wd (by rfl) HWD.out (sk, sn) (by rfl) ?_
    intro w7 hg7 hk7 hs7
    refine hK.out _ _ ?_
    obtain ⟨h8, h9⟩ := (HB4.out.kept (drew_kept _)).putG hg7 hk7
    have h10 := (HW4.out.kept (drew_kept _)).trans h9
    have h11 := out_ok HR2.out.symm h8.a h10
    clear hK K h8 h9 h10 hg7 hk7 hs7
    go_wp2_with fail
    go_end0
    exact h11
  · rw [if_pos hn] at hR
    refine (give_noname b kd (pl : Int) sk sn wd w hn).mono ?_
    rintro e w' ⟨rfl, hk⟩
    exact out_err hR.symm (hk.kt _)
end Gs
end Ex
end Go.Proofs.YtbnchnlogikecaaGreatDoor
namespace Go.Proofs.YtbnchnlogikecaaGreatDoor
open Go.RowKit
namespace Ex
def StopS (T : ByteArray) (f : Int) (s : Int × Int × Int) : Prop := (s.2.1 ≠ 0 → s.1 = T.size) ∧ (s.2.1 = 0 → s.2.2 = f)
theorem stop_at {T : ByteArray} {s : Int × Int} (h : s.1 = 0) (k : Int) : StopS T s.2 (k, s) := ⟨fun h2 => absurd h h2, fun _ => rfl⟩
theorem fail_stop (T : ByteArray) (f : Int) (s : Int × Int × Int) {x : Int} (y : Int) (hx : x ≠ 0) : StopS T f (failS T s x y) := ⟨fun _ => rfl, fun h => absurd h (failE_ne hx)⟩
theorem wrong_stop (T : ByteArray) (f : Int) (s : Int × Int × Int) : StopS T f (wrongS T s) := fail_stop _ _ _ _ (wrongC_ne _ _)
theorem peek_end (T : ByteArray) : peekP T (T.size : Int) = 0 := by unfold peekP; rw [dif_neg (by omega)]
theorem hexR_stop {T : ByteArray} {f : Int} {s : Int × Int × Int} {o : Int} (h : StopS T f s) : StopS T f (hexR T s o).2 := by
  unfold hexR
  split
  · exact wrong_stop _ _ _
  · split
    · exact fail_stop _ _ _ _ (by decide)
    · rename_i h1 _
      exact ⟨fun h2 => absurd (h.1 h2) h1, h.2⟩
theorem escape_stop {T : ByteArray} {s : Int × Int × Int} (h : s.2.1 = 0) : StopS T s.2.2 (escapeS T s).2 := by
  unfold escapeS
  split
  · exact wrong_stop _ _ _
  split
  · exact stop_at h _
  split
  · exact stop_at h _
  split
  · exact stop_at h _
  split
  · exact hexR_stop (hexR_stop (stop_at h _))
  split
  · exact fail_stop _ _ _ _ (by decide)
  · exact stop_at h _
theorem oneA_stop {T : ByteArray} {s : Int × Int × Int} (h : s.2.1 = 0) : StopS T s.2.2 (oneA T s).2 := by
  unfold oneA
  split
  · exact escape_stop h
  · unfold oneS
    split
    · exact stop_at h _
    · exact wrong_stop _ _ _
theorem memR_bad {T : ByteArray} {s : Int × Int × Int} {y : Int} (h : s.2.1 = 0) (he : (oneA T s).2.2.1 ≠ 0) : (memR T s y).2 = (oneA T s).2 := by
  have h1 := (oneA_stop (T := T) h).1 he
  have e1 : memberF T s = oneA T s := by
    unfold memberF
    rw [if_neg (by rw [h1, peek_end]; decide)]
  show (if (memberF T s).1 < (oneA T s).1 then failS T (memberF T s).2 22 y else (memberF T s).2) = _
  rw [e1, if_neg (by omega)]
theorem memR_stop {T : ByteArray} {s : Int × Int × Int} {y : Int} (h : s.2.1 = 0) : StopS T s.2.2 (memR T s y).2 := by
  by_cases he : (oneA T s).2.2.1 = 0
  · show StopS T s.2.2 (if (memberF T s).1 < (oneA T s).1 then failS T (memberF T s).2 22 y else (memberF T s).2)
    split
    · exact fail_stop _ _ _ _ (by decide)
    · unfold memberF
      split
      · have h2 := oneA_stop (T := T) (s := ((oneA T s).2.1 + 1, (oneA T s).2.2)) he
        rw [show ((oneA T s).2.1 + 1, (oneA T s).2.2).2.2 = s.2.2 from (oneA_stop (T := T) h).2 he] at h2
        exact h2
      · exact oneA_stop h
  · rw [memR_bad h he]
    exact oneA_stop h
theorem clG_stop {T : ByteArray} {y f : Int} : ∀ (m : Nat) (l : List (Int × Int)) (s : Int × Int × Int), StopS T f s → StopS T f (clG T y m l s).2
  | 0, _, _, h => h
  | m + 1, l, s, h => by
    rw [clG]
    split
    · rename_i h0
      have hf := h.2 h0
      subst hf
      split
      · exact stop_at h0 _
      · exact clG_stop m _ _ (memR_stop h0)
    · exact h
theorem classA_stop {T : ByteArray} {s : Int × Int × Int} (h : s.2.1 = 0) : StopS T s.2.2 (classA T s).2 := by
  unfold classA clE
  split
  · exact fail_stop _ _ _ _ (by decide)
  · exact clG_stop _ _ _ (memR_stop (s := (takeK T (s.1 + 1) 94, s.2)) h)
theorem number_stop {T : ByteArray} {s : Int × Int × Int} (h : s.2.1 = 0) : StopS T s.2.2 (numberS T s).2 := by
  unfold numberS
  split
  · exact wrong_stop _ _ _
  · exact stop_at h _
theorem bracesM_stop {T : ByteArray} {f : Int} {a : Int × Int × Int × Int} (h : StopS T f a.2) : StopS T f (bracesM T a).2 := by
  unfold bracesM
  split
  · rename_i hc
    have he : a.2.2.1 = 0 := by
      rcases Decidable.em (a.2.2.1 = 0) with h1 | h1
      · exact h1
      · rw [h.1 h1, peek_end] at hc
        exact absurd hc (by decide)
    have hf := h.2 he
    subst hf
    split
    · exact stop_at he _
    · exact number_stop he
  · exact h
theorem braces_stop {T : ByteArray} {s : Int × Int × Int} (h : s.2.1 = 0) : StopS T s.2.2 (bracesS T s).2.2 := by
  have h1 := bracesM_stop (number_stop (T := T) (s := (s.1 + 1, s.2)) h)
  unfold bracesS bracesZ
  split
  · rename_i hc
    dsimp only
    split
    · refine ⟨fun h2 => ?_, h1.2⟩
      rw [h1.1 h2, peek_end] at hc
      exact absurd hc (by decide)
    · exact fail_stop _ _ _ _ (by decide)
  · exact wrong_stop _ _ _
theorem timesG_bad {T : ByteArray} {m : Nat} {p : Pat} {e f : Int} : timesG T m p ((T.size : Int), e, f) = (p, (T.size : Int), e, f) := by
  cases m with
  | zero => rfl
  | succ m =>
    rw [timesG]
    dsimp only
    rw [peek_end]
    simp
theorem timesG_stop {T : ByteArray} {f : Int} : ∀ (m : Nat) (p : Pat) (s : Int × Int × Int), StopS T f s → StopS T f (timesG T m p s).2
  | 0, _, _, h => h
  | m + 1, p, s, h => by
    by_cases he : s.2.1 = 0
    · have hf := h.2 he
      subst hf
      rw [timesG]
      split
      · exact timesG_stop m _ _ (stop_at he _)
      split
      · exact timesG_stop m _ _ (stop_at he _)
      split
      · exact timesG_stop m _ _ (stop_at he _)
      split
      · exact timesG_stop m _ _ (braces_stop he)
      · exact h
    · obtain ⟨k, e, f1⟩ := s
      have : k = T.size := h.1 he
      subst this
      rw [timesG_bad]
      exact h
def StopP (T : ByteArray) (pat : Int × Int × Int → Pat × Int × Int × Int) : Prop := ∀ s, s.2.1 = 0 → StopS T s.2.2 (pat s).2
theorem atomA_stop {T : ByteArray} {pat : Int × Int × Int → Pat × Int × Int × Int} (hp : StopP T pat) {s : Int × Int × Int} (h : s.2.1 = 0) : StopS T s.2.2 (atomA pat T s).2 := by
  unfold atomA
  split
  · exact escape_stop h
  split
  · exact classA_stop h
  split
  · exact stop_at h _
  split
  · have h1 := hp (s.1 + 1, s.2) h
    dsimp only
    split
    · rename_i hc
      refine ⟨fun h2 => ?_, h1.2⟩
      rw [h1.1 h2, peek_end] at hc
      exact absurd hc (by decide)
    · exact wrong_stop _ _ _
  split
  · exact stop_at h _
  · exact wrong_stop _ _ _
theorem itemA_stop {T : ByteArray} {pat : Int × Int × Int → Pat × Int × Int × Int} (hp : StopP T pat) : StopP T (itemA pat T) := fun _ h => timesG_stop _ _ _ (atomA_stop hp h)
theorem rowG_stop {A : Int × Int × Int → Pat × Int × Int × Int} {T : ByteArray} {f : Int} (hA : StopP T A) : ∀ (m : Nat) (l : List Pat) (s : Int × Int × Int), StopS T f s → StopS T f (rowG A T m l s).2
  | 0, _, _, h => h
  | m + 1, l, s, h => by
    rw [rowG]
    split
    · rename_i hg
      by_cases he : s.2.1 = 0
      · have hf := h.2 he
        subst hf
        exact rowG_stop hA m _ _ (hA s he)
      · exact absurd hg.1 (by rw [h.1 he]; omega)
    · exact h
theorem patG_stop {R : Int × Int × Int → Pat × Int × Int × Int} {T : ByteArray} {f : Int} (hR : StopP T R) : ∀ (m : Nat) (l : List Pat) (s : Int × Int × Int), StopS T f s → StopS T f (patG R T m l s).2
  | 0, _, _, h => h
  | m + 1, l, s, h => by
    rw [patG]
    split
    · rename_i hc
      by_cases he : s.2.1 = 0
      · have hf := h.2 he
        subst hf
        exact patG_stop hR m _ _ (hR (s.1 + 1, s.2) he)
      · rw [h.1 he, peek_end] at hc
        exact absurd hc (by decide)
    · exact h
theorem rowS_stop {A : Int × Int × Int → Pat × Int × Int × Int} {T : ByteArray} (hA : StopP T A) : StopP T (rowS A T) := fun s h => rowG_stop hA 4097 [] s (stop_at h s.1)
theorem patO_stop {R : Int × Int × Int → Pat × Int × Int × Int} {T : ByteArray} (hR : StopP T R) : StopP T (patO R T) := fun s h => patG_stop hR 4097 [(R s).1] (R s).2 (hR s h)
theorem patA_stop {T : ByteArray} : ∀ (N : Nat), StopP T (patA T N)
  | 0 => fun s h => stop_at h s.1
  | N + 1 => fun s h => patO_stop (rowS_stop (itemA_stop (patA_stop N))) s h
def PlaceS (T : ByteArray) (s : Int × Int × Int) : Prop := s.2.1 ≠ 0 → 0 ≤ s.2.2 ∧ s.2.2 ≤ T.size
theorem place_fail {T : ByteArray} {s : Int × Int × Int} {x y : Int} (h : PlaceS T s) (h0 : 0 ≤ y) (h1 : y ≤ T.size) : PlaceS T (failS T s x y) := by
  intro _
  show 0 ≤ failF s.2.1 s.2.2 y ∧ failF s.2.1 s.2.2 y ≤ T.size
  unfold failF
  split
  · exact ⟨h0, h1⟩
  · rename_i he
    exact h he
theorem place_wrong {T : ByteArray} {s : Int × Int × Int} (h : PlaceS T s) (ho : OkS T s) : PlaceS T (wrongS T s) := place_fail h ho.1 ho.2
theorem place_at {T : ByteArray} {k : Int} {s : Int × Int × Int} (h : PlaceS T s) : PlaceS T (k, s.2) := h
theorem place_hex {T : ByteArray} {s : Int × Int × Int} {o : Int} (h : PlaceS T s) (ho : OkS T s) (h0 : 0 ≤ o) (h1 : o ≤ T.size) : PlaceS T (hexR T s o).2 := by
  unfold hexR
  split
  · exact place_wrong h ho
  · split
    · exact place_fail h h0 h1
    · exact h
theorem place_escape {T : ByteArray} {s : Int × Int × Int} (h : PlaceS T s) (h0 : 0 ≤ s.1) (h1 : s.1 < T.size) : PlaceS T (escapeS T s).2 := by
  unfold escapeS
  split
  · exact place_wrong (place_at h) ⟨by show 0 ≤ s.1 + 1; omega, by show s.1 + 1 ≤ _; omega⟩
  · rename_i h2
    have g : OkS T (s.1 + 1 + 1, s.2) := ⟨by show 0 ≤ s.1 + 1 + 1; omega, by show s.1 + 1 + 1 ≤ _; omega⟩
    split
    · exact h
    split
    · exact h
    split
    · exact h
    split
    · exact place_hex (place_hex (s := (s.1 + 1 + 1, s.2)) h g h0 (by omega)) (hex_ok g).1 h0 (by omega)
    split
    · exact place_fail h h0 (by omega)
    · exact h
theorem place_one {T : ByteArray} {s : Int × Int × Int} (h : PlaceS T s) (ho : OkS T s) : PlaceS T (oneA T s).2 := by
  unfold oneA
  split
  · rename_i hc
    have := peek_lt (T := T) (k := s.1) (by rw [hc]; decide)
    exact place_escape h this.1 this.2
  · unfold oneS
    split
    · exact h
    · exact place_wrong h ho
theorem place_mem {T : ByteArray} {s : Int × Int × Int} {y : Int} (h : PlaceS T s) (ho : OkS T s) (h0 : 0 ≤ y) (h1 : y ≤ T.size) : PlaceS T (memR T s y).2 := by
  have hf : PlaceS T (memberF T s).2 := by
    unfold memberF
    split
    · rename_i hc
      exact place_one (place_at (place_one h ho)) (take_ok (T := T) (s := (oneA T s).2) (c := 45) (by decide) hc)
    · exact place_one h ho
  show PlaceS T (if (memberF T s).1 < (oneA T s).1 then failS T (memberF T s).2 22 y else (memberF T s).2)
  split
  · exact place_fail hf h0 h1
  · exact hf
theorem place_clG {T : ByteArray} {y : Int} (h0 : 0 ≤ y) (h1 : y ≤ T.size) : ∀ (m : Nat) (l : List (Int × Int)) (s : Int × Int × Int), PlaceS T s → OkS T s → PlaceS T (clG T y m l s).2
  | 0, _, _, h, _ => h
  | m + 1, l, s, h, ho => by
    rw [clG]
    split
    · split
      · exact h
      · exact place_clG h0 h1 m _ _ (place_mem h ho h0 h1) (memberA_ok (y := y) ho).1
    · exact h
theorem place_class {T : ByteArray} {s : Int × Int × Int} (h : PlaceS T s) (h0 : 0 ≤ s.1) (h1 : s.1 < T.size) : PlaceS T (classA T s).2 := by
  have hk : OkS T (takeK T (s.1 + 1) 94, s.2) := by
    unfold takeK
    split
    · rename_i hc
      exact take_ok (T := T) (s := (s.1 + 1, s.2)) (c := 94) (by decide) hc
    · exact ⟨by show 0 ≤ s.1 + 1; omega, by show s.1 + 1 ≤ _; omega⟩
  have hl : PlaceS T (clL T s).2 := place_clG h0 (by omega) _ _ _ (place_mem (s := (takeK T (s.1 + 1) 94, s.2)) h hk h0 (by omega)) (memberA_ok (y := s.1) hk).1
  unfold classA clE
  split
  · exact place_fail hl h0 (by omega)
  · exact hl
theorem place_number {T : ByteArray} {s : Int × Int × Int} (h : PlaceS T s) (ho : OkS T s) : PlaceS T (numberS T s).2 := by
  unfold numberS
  split
  · exact place_wrong h ho
  · exact h
theorem place_braces {T : ByteArray} {s : Int × Int × Int} (h : PlaceS T s) (h0 : 0 ≤ s.1) (h1 : s.1 < T.size) : PlaceS T (bracesS T s).2.2 := by
  have g : OkS T (s.1 + 1, s.2) := ⟨by show 0 ≤ s.1 + 1; omega, by show s.1 + 1 ≤ _; omega⟩
  have hn : PlaceS T (numberS T (s.1 + 1, s.2)).2 := place_number h g
  have hok := (number_ok g).1
  have hm : PlaceS T (bracesM T (numberS T (s.1 + 1, s.2))).2 := by
    unfold bracesM
    split
    · rename_i hc
      split
      · exact hn
      · exact place_number (place_at hn) (take_ok (T := T) (s := (numberS T (s.1 + 1, s.2)).2) (c := 44) (by decide) hc)
    · exact hn
  have hmo := (bracesM_ok hok).1
  unfold bracesS bracesZ
  split
  · dsimp only
    split
    · exact hm
    · exact place_fail hm h0 (by omega)
  · exact place_wrong hm hmo
theorem place_times {T : ByteArray} : ∀ (m : Nat) (p : Pat) (s : Int × Int × Int), PlaceS T s → PlaceS T (timesG T m p s).2
  | 0, _, _, h => h
  | m + 1, p, s, h => by
    rw [timesG]
    split
    · exact place_times m _ _ h
    split
    · exact place_times m _ _ h
    split
    · exact place_times m _ _ h
    split
    · rename_i hc
      have := peek_lt (T := T) (k := s.1) (by rw [hc]; decide)
      exact place_times m _ _ (place_braces h this.1 this.2)
    · exact h
def PlaceP (T : ByteArray) (N : Nat) (pat : Int × Int × Int → Pat × Int × Int × Int) : Prop := ∀ s, PlaceS T s → OkS T s → (T.size : Int) < s.1 + (N : Int) → PlaceS T (pat s).2
theorem place_atom {T : ByteArray} {N : Nat} {pat : Int × Int × Int → Pat × Int × Int × Int} (hP : PlaceP T N pat) (hO : PatOk T N pat) {s : Int × Int × Int} (h : PlaceS T s) (ho : OkS T s) (hlt : s.1 < T.size) (hN : (T.size : Int) < s.1 + ((N + 1 : Nat) : Int)) : PlaceS T (atomA pat T s).2 := by
  have h0 := ho.1
  have h1 : OkS T (s.1 + 1, s.2) := ⟨by show 0 ≤ s.1 + 1; omega, by show s.1 + 1 ≤ _; omega⟩
  unfold atomA
  split
  · exact place_escape h h0 hlt
  split
  · exact place_class h h0 hlt
  split
  · exact h
  split
  · have h2 := hP (s.1 + 1, s.2) h h1 (by show (T.size : Int) < s.1 + 1 + N; omega)
    have h3 := (hO (s.1 + 1, s.2) h1 (by show (T.size : Int) < s.1 + 1 + N; omega)).1
    dsimp only
    split
    · exact h2
    · exact place_wrong h2 h3
  split
  · exact h
  · exact place_wrong h ho
theorem place_rowG {T : ByteArray} {N : Nat} {pat : Int × Int × Int → Pat × Int × Int × Int} (hP : PlaceP T N pat) (hO : PatOk T N pat) : ∀ (m : Nat) (l : List Pat) (s : Int × Int × Int), PlaceS T s → OkS T s → (T.size : Int) < s.1 + ((N + 1 : Nat) : Int) → PlaceS T (rowG (itemA pat T) T m l s).2
  | 0, _, _, h, _, _ => h
  | m + 1, l, s, h, ho, hN => by
    rw [rowG]
    split
    · rename_i hg
      have hi := itemA_ok hO ho hg.1 hN
      exact place_rowG hP hO m _ _ (place_times _ _ _ (place_atom hP hO h ho hg.1 hN)) hi.1 (by have := hi.2; omega)
    · exact h
theorem place_patG {T : ByteArray} {N : Nat} {R : Int × Int × Int → Pat × Int × Int × Int} (hP : ∀ s, PlaceS T s → OkS T s → (T.size : Int) < s.1 + (N : Int) → PlaceS T (R s).2) (hO : ∀ s, OkS T s → (T.size : Int) < s.1 + (N : Int) → OkS T (R s).2 ∧ s.1 ≤ (R s).2.1) : ∀ (m : Nat) (l : List Pat) (s : Int × Int × Int), PlaceS T s → OkS T s → (T.size : Int) < s.1 + (N : Int) → PlaceS T (patG R T m l s).2
  | 0, _, _, h, _, _ => h
  | m + 1, l, s, h, ho, hN => by
    rw [patG]
    split
    · rename_i hc
      have g := take_ok (T := T) (s := s) (c := 124) (by decide) hc
      have hN2 : (T.size : Int) < s.1 + 1 + (N : Int) := by omega
      have hr := hO (s.1 + 1, s.2) g hN2
      have h3 := hr.2
      dsimp only at h3
      exact place_patG hP hO m _ _ (hP (s.1 + 1, s.2) h g hN2) hr.1 (by omega)
    · exact h
theorem place_pat {T : ByteArray} : ∀ (N : Nat), PlaceP T N (patA T N)
  | 0 => fun s _ ho hN => by have := ho.2; omega
  | N + 1 => fun s h ho hN => by
    have hR : ∀ s, PlaceS T s → OkS T s → (T.size : Int) < s.1 + ((N + 1 : Nat) : Int) → PlaceS T (rowS (itemA (patA T N) T) T s).2 := fun s h ho hN => place_rowG (place_pat N) (patA_ok N) 4097 [] s h ho hN
    have hRO : ∀ s, OkS T s → (T.size : Int) < s.1 + ((N + 1 : Nat) : Int) → OkS T (rowS (itemA (patA T N) T) T s).2 ∧ s.1 ≤ (rowS (itemA (patA T N) T) T s).2.1 := fun s h hN => rowG_ok (N := N + 1) (fun s h hlt hN => itemA_ok (patA_ok N) h hlt hN) 4097 [] s h hN
    have h1 := hRO s ho hN
    exact place_patG hR hRO 4097 _ _ (hR s h ho hN) h1.1 (by have := h1.2; omega)
theorem parse_place (T : ByteArray) : 0 ≤ (parseM T).2.2 ∧ (parseM T).2.2 ≤ T.size := by
  unfold parseM
  split
  · exact ⟨by simp, by simp⟩
  rename_i hT
  have h0 : PlaceS T (0, 0, 0) := fun h => absurd rfl h
  have hok : OkS T (0, 0, 0) := ⟨by simp, by show (0 : Int) ≤ T.size; omega⟩
  have hp := place_pat (T := T) 4098 (0, 0, 0) h0 hok (by show (T.size : Int) < 0 + ((4098 : Nat) : Int); omega)
  have ho := (patA_ok (T := T) 4098 (0, 0, 0) hok (by show (T.size : Int) < 0 + ((4098 : Nat) : Int); omega)).1
  have hs := patA_stop (T := T) 4098 (0, 0, 0) rfl
  have hw : PlaceS T (wholeA T (0, 0, 0)).2 ∧ ((wholeA T (0, 0, 0)).2.2.1 = 0 → (wholeA T (0, 0, 0)).2.2.2 = 0) := by
    unfold wholeA
    split
    · exact ⟨place_wrong hp ho, fun h => absurd h (failE_ne (wrongC_ne _ _))⟩
    · exact ⟨hp, hs.2⟩
  split
  · rename_i he
    exact hw.1 he
  · rename_i he
    have he0 : (wholeA T (0, 0, 0)).2.2.1 = 0 := by simpa using he
    split
    · dsimp only
      rw [hw.2 he0]
      exact ⟨by simp, by simp⟩
    · exact ⟨by simp, by simp⟩
end Ex
end Go.Proofs.YtbnchnlogikecaaGreatDoor
namespace Go.Proofs.YtbnchnlogikecaaGreatDoor
open Go.RowKit
attribute [local go_sem] Oper.semAt_some
set_option linter.unusedVariables false
namespace Ex
namespace Gs
open Sh
theorem but_fr {ρ : Nat → Nat} {b : Nat} {w w' : World} (h : KeptBut b w w') : Fr ρ b w w' := ⟨h.1, h.2.1, h.2.2.1, h.2.2.2.1, fun d hd hn => h.2.2.2.2 d hd (fun e => hn (Or.inl e))⟩
theorem OutR.after {ρ ρ1 : Nat → Nat} {b : Nat} {T : ByteArray} {w w1 w' : World} {x : Except Flt RSt} {e : Ending} (hw : Went ρ b w ρ1 w1) (h : OutR ρ1 b T w1 x e w') : OutR ρ b T w x e w' := by
  cases x with
  | error f => exact ⟨h.1, hw.fr h.2⟩
  | ok s => obtain ⟨h1, ρ2, h2, h3⟩ := h; exact ⟨h1, ρ2, h2, hw.trans h3⟩
theorem sign_is (T : ByteArray) (hT : T.size ≤ 100000) (b : Nat) (c : Int) (w : World) (ρ : Nat → Nat) (s : RSt) (h : RdA ρ w b T s) (hk : s.k ≤ T.size) :
    Calls Tryz.prog 90 #[.pointer (some ⟨b, 0, none⟩), .int .i64 c] w (OutR ρ b T w (signM T c s)) := by
  obtain ⟨xL, xN, xP, xU, m, its, ps, h⟩ := h
  unfold signM
  by_cases hc : (nextM T s.k).kd = c
  · rw [if_pos hc]
    refine (sign_ok T hT b s.k w h.sc hk c hc).mono ?_
    rintro e w' ⟨rfl, hm⟩
    exact ⟨rfl, ρ, (h.mv hm).a, (Went.refl ρ b w).mv hm⟩
  · rw [if_neg hc]
    refine (sign_bad T hT b s.k w h.sc hk c hc).mono ?_
    rintro e w' ⟨rfl, hm⟩
    exact ⟨rfl, but_fr hm⟩
def OutT (ρ : Nat → Nat) (b : Nat) (T : ByteArray) (w : World) (s : RSt) (x : Except Flt Tok) (e : Ending) (w' : World) : Prop :=
  match x with
  | .ok N => e = .returned (.agg #[.int .i64 N.kd, .int .i64 (N.pl : Int), .string N.wd]) ∧ Mv b N.nx w w'
  | .error f => e = thrown f.1 f.2.1 f.2.2 ∧ Fr ρ b w w'
theorem part_is (T : ByteArray) (hT : T.size ≤ 100000) (b : Nat) (w : World) (ρ : Nat → Nat) (s : RSt) (h : ScAt w b T s.k) (hk : s.k ≤ T.size) :
    Calls Tryz.prog 109 #[.pointer (some ⟨b, 0, none⟩)] w (OutT ρ b T w s (partM T s.k)) := by
  unfold partM
  by_cases hc : paE (nextM T s.k) = 0
  · rw [if_pos hc]
    refine (part_ok T hT b s.k w h hk hc).mono ?_
    rintro e w' ⟨rfl, hm⟩
    exact ⟨rfl, hm⟩
  · rw [if_neg hc]
    refine (part_bad T hT b s.k w h hk hc).mono ?_
    rintro e w' ⟨rfl, hm⟩
    exact ⟨rfl, but_fr hm⟩
def OutP (ρ : Nat → Nat) (b : Nat) (w : World) (x : Except Flt (Pat × Nat)) (e : Ending) (w' : World) : Prop :=
  match x with
  | .ok q => (∃ v, e = .returned v ∧ PatU (fun d => w.heap.size ≤ d) w' q.1 v) ∧ Mv b q.2 w w'
  | .error f => e = thrown f.1 f.2.1 f.2.2 ∧ Fr ρ b w w'
theorem pattern_is (T : ByteArray) (hT : T.size ≤ 100000) (b k : Nat) (w : World) (ρ : Nat → Nat) (h : ScAt w b T k) (hk : k ≤ T.size) :
    Calls Tryz.prog 114 #[.pointer (some ⟨b, 0, none⟩)] w (OutP ρ b w (patM T k)) := by
  unfold patM
  by_cases hp : skipB T k < T.size ∧ peekP T ((skipB T k : Nat) : Int) = 47
  · rw [if_pos hp]
    cases hc : clE T (skipB T k) with
    | none =>
      dsimp only
      refine (pattern_wide T hT b k w h hk hp hc).mono ?_
      rintro e w' ⟨rfl, hm⟩
      exact ⟨rfl, but_fr hm⟩
    | some i =>
      dsimp only
      by_cases he : (parseM (T.extract (skipB T k + 1) i)).2.1 = 0
      · rw [if_pos he]
        exact pattern_ok T hT b k i w h hk hp hc he
      · rw [if_neg he]
        refine (pattern_ill T hT b k i w h hk hp hc he (parse_place _).1 (by have h1 := (parse_place (T.extract (skipB T k + 1) i)).2; have h2 : (T.extract (skipB T k + 1) i).size = min i T.size - (skipB T k + 1) := ByteArray.size_extract; omega)).mono ?_
        rintro e w' ⟨rfl, hm⟩
        exact ⟨rfl, but_fr hm⟩
  · rw [if_neg hp]
    refine (pattern_shut T hT b k w h hk hp).mono ?_
    rintro e w' ⟨rfl, hm⟩
    exact ⟨rfl, but_fr hm⟩
theorem RdB.go {ρ : Nat → Nat} {w : World} {b : Nat} {T : ByteArray} {s : RSt} {xL xN xP xU : SlV} {m : Nat} {its : List LexM} {ps : List PrdM} (h : RdB ρ w b T s xL xN xP xU m its ps) : RdB ρ (w.setCell ⟨b, 8, none⟩ (.bool true)) b T { s with sd := true } xL xN xP xU m its ps :=
  h.new 9 (by simp [World.setCell]) (fun _ _ => rfl) (fun d hd hr => by have := h.lo d hr; omega) (fun d hd h0 h6 => Below.heap_setCell _ _ _ _ (fun e => h0 (by have e : d = b := e; rw [e]; exact h.o0))) (by unfold BoxR; rw [heap_setb h.box]; rfl) (.inl ⟨rfl, rfl, rfl, by decide, by decide⟩) (.inl ⟨rfl, rfl, by decide⟩) (.inl ⟨rfl, rfl, rfl, rfl, by decide, by decide⟩) (.inl ⟨rfl, rfl, by decide⟩) (.inl ⟨rfl, rfl, by decide⟩)
theorem grown_far {ρ : Nat → Nat} {w w' : World} {v : Value} {i d : Nat} (ho : Own ρ v i) (hi : i ≠ 0) (hg : w.grownBy w' v.ownBlock) (hd : d < w.heap.size) (hr : ρ d = 0) : w'.heap[d]? = w.heap[d]? := hg.block d hd (fun e => hi (by have := ho d e.symm; omega))
end Gs
end Ex
end Go.Proofs.YtbnchnlogikecaaGreatDoor
namespace Go.Proofs.YtbnchnlogikecaaGreatDoor
open Go.RowKit
attribute [local go_sem] Oper.semAt_some
set_option linter.unusedVariables false
set_option linter.unusedSimpArgs false
set_option maxRecDepth 100000
set_option maxHeartbeats 8000000
namespace Ex
namespace Gs
open Sh
def OutB (ρ : Nat → Nat) (b : Nat) (T : ByteArray) (w : World) (x : Except Flt (Bool × RSt)) (e : Ending) (w' : World) : Prop :=
  match x with
  | .ok r => e = .returned (.bool r.1) ∧ ∃ ρ', RdA ρ' w' b T r.2 ∧ Went ρ b w ρ' w'
  | .error f => e = thrown f.1 f.2.1 f.2.2 ∧ Fr ρ b w w'
theorem outB_ok {ρ ρ' : Nat → Nat} {b : Nat} {T : ByteArray} {w w' : World} {x : Except Flt (Bool × RSt)} {s : RSt} {r : Bool} (h : x = .ok (r, s)) (h1 : RdA ρ' w' b T s) (h2 : Went ρ b w ρ' w') : OutB ρ b T w x (.returned (.bool r)) w' := by
  subst h; exact ⟨rfl, ρ', h1, h2⟩
theorem outB_err {ρ : Nat → Nat} {b : Nat} {T : ByteArray} {w w' : World} {x : Except Flt (Bool × RSt)} {er at_ : Int} {nm : ByteArray} (h : x = .error (er, at_, nm)) (h2 : Fr ρ b w w') : OutB ρ b T w x (thrown er at_ nm) w' := by
  subst h; exact ⟨rfl, h2⟩
def RgI (ρ : Nat → Nat) (b : Nat) (T : ByteArray) (w : World) (g pr : Nat) (X : Except Flt (Bool × RSt)) (n : Nat) (wr : World) : Prop :=
  ∃ (s1 : RSt) (N1 : Tok) (ρ1 : Nat → Nat), sideM T (pr : Int) (18 - n) n N1 s1 = X ∧ RdA ρ1 wr b T s1 ∧ Went ρ b w ρ1 wr ∧ TkB wr g N1.kd (N1.pl : Int) N1.wd ∧ ρ1 g = 0 ∧ Wf T s1 ∧ pr < s1.prd.length ∧ s1.use.length + 1 ≤ s1.k
theorem side_stop {T : ByteArray} {pr : Int} {f n : Nat} {N : Tok} {s : RSt} (h : N.kd ≠ 2) : sideM T pr f n N s = .ok (decide (N.kd = 124), s) := by
  cases f with
  | zero => rfl
  | succ f => unfold sideM; rw [if_neg h]
theorem side_long {T : ByteArray} {pr : Int} {N : Tok} {s : RSt} (h : N.kd = 2) : sideM T pr (18 - 16) 16 N s = .error (2, (N.pl : Int), ⟨#[]⟩) := by
  show sideM T pr (1 + 1) 16 N s = _
  unfold sideM; rw [if_pos h, if_pos rfl]
theorem side_step {T : ByteArray} {pr : Int} {n : Nat} {N : Tok} {s : RSt} (h : N.kd = 2) (hn : n < 16) : sideM T pr (18 - n) n N s = (partM T s.k).bind fun M => sideM T pr (18 - (n + 1)) (n + 1) M { s with k := M.nx, use := s.use ++ [(2, (N.pl : Int), N.wd, pr)] } := by
  obtain ⟨f, hf⟩ : ∃ f, 18 - n = f + 1 := ⟨17 - n, by omega⟩
  rw [hf, show 18 - (n + 1) = f by omega]
  conv => lhs; unfold sideM
  rw [if_pos h, if_neg (by omega), h]
theorem set_heap_ne {w : World} {b g o : Nat} {v : Value} (h : g ≠ b) : (w.setCell ⟨b, o, none⟩ v).heap[g]? = w.heap[g]? := Below.heap_setCell _ _ _ _ (fun e => h e)
theorem right_is (T : ByteArray) (hT : T.size ≤ 100000) (b : Nat) (left : Int) (w : World) (ρ : Nat → Nat) (s : RSt) (h : RdA ρ w b T s) (hf : Wf T s) :
    Calls Tryz.prog 91 #[.pointer (some ⟨b, 0, none⟩), .int .i64 left] w (OutB ρ b T w (rightM T left s)) := by
  obtain ⟨xL, xN, ⟨pa, pn, pc⟩, xU, m, its, ps, h⟩ := h
  have hpn : ps.length = pn := lo_lens h.prd
  have hpn2 : s.prd.length = pn := h.prdR.len.symm.trans hpn
  obtain ⟨R, hR⟩ : ∃ R, rightM T left s = R := ⟨_, rfl⟩
  rw [hR]
  unfold rightM at hR
  rw [hpn2] at hR
  obtain ⟨X1, hX1⟩ : ∃ X, partM T s.k = X := ⟨_, rfl⟩
  rw [hX1] at hR
  have HPT : Hid (∀ w ρ, ScAt w b T s.k → Calls Tryz.prog 109 #[.pointer (some ⟨b, 0, none⟩)] w (OutT ρ b T w s X1)) := fun w ρ h => by
    rw [← hX1]
    exact part_is T hT b w ρ s h hf.k
  have HX1 : Hid (∀ N, X1 = .ok N → N = nextM T s.k ∧ N.kd ≠ 0) := fun N h => by
    have h2 := part_eq (hX1.trans h)
    exact ⟨h2.1, h2.2.2⟩
  have HR := hide1 hR
  have HF := hide1 hf
  have HT := hide1 hT
  have HPN := hide1 hpn
  have HPN2 := hide1 hpn2
  have HW0 := hide1 (Went.refl ρ b w)
  have HB := hide1 h
  clear hR hX1 hf hT hpn hpn2 h
  go_enter Tryz.func91, Tryz.ntmps91
  have d5 := HB.out.cells.1.2.2.2.2.2.1
  dsimp only at d5
  go_upto_region 2 with fail
  go_wp2_with fail
  go_at_call 109
  refine (HPT.out _ ρ HB.out.sc).mono ?_
  intro e w3 h3
  rcases X1 with f | N
  · obtain ⟨rfl, hf3⟩ := h3
    have h9 : OutB ρ b T w R (thrown f.1 f.2.1 f.2.2) w3 := outB_err (show R = .error (f.1, f.2.1, f.2.2) from HR.out.symm) hf3
    unfold thrown at h9 ⊢
    go_wp2_with fail
    exact ⟨rfl, h9⟩
  obtain ⟨rfl, hm3⟩ := h3
  have HN := hide1 (HX1.out N rfl)
  have HNF := hide1 (next_facts HF.out.k)
  rw [← HN.out.1] at HNF
  have HNK := hide1 (HNF.out.2.2.2.2.2 HN.out.2)
  obtain ⟨kd2, pl2, wd2, nx⟩ := N
  dsimp only at hm3 HNF HNK
  have hR2 : (if pn = 512 then .error (2, (pl2 : Int), ⟨#[]⟩) else sideM T (pn : Int) 18 0 ⟨kd2, pl2, wd2, nx⟩ { s with k := nx, prd := s.prd ++ [left], sds := s.sds ++ [[]] }) = R := HR.out
  have HB3 := hide1 (HB.out.mv hm3)
  have HW3 := hide1 (HW0.out.mv hm3)
  have HGR := hide1 (HB3.out.fresh (Nat.le_refl _))
  have HGB := hide1 (show w3.heap.size ≠ b from fun e => by have := HB3.out.ltb; omega)
  have HGW := hide1 (show w.heap.size ≤ w3.heap.size from hm3.1.2.2.2.1)
  have HT4 := hide1 (fact3 w3 kd2 (pl2 : Int) wd2)
  have HB4 := hide1 (HB3.out.kept ((Kept.refl w3).alloc #[.int .i64 kd2, .int .i64 (pl2 : Int), .string wd2] 104))
  have HW4 := hide1 (HW3.out.kept ((Kept.refl w3).alloc #[.int .i64 kd2, .int .i64 (pl2 : Int), .string wd2] 104))
  clear hm3 d5 HB HW0 HPT HX1 HR HB3 HW3
  go_upto_region 3 with fail
  obtain ⟨g6, hg6⟩ : ∃ g, w3.heap.size = g := ⟨_, rfl⟩
  generalize w3.alloc (.cells #[.int .i64 kd2, .int .i64 (pl2 : Int), .string wd2] 104) = W4 at HT4 HB4 HW4 ⊢
  rw [hg6] at HGR HGB HGW HT4 ⊢
  clear hg6
  by_cases h512 : pn = 512
  · have e1 : ((pn : Int) == 512) = true := by simp; omega
    rw [if_pos h512] at hR2
    obtain ⟨⟨t0, t1, t2⟩, -⟩ := HT4.out.facts
    go_wp2_with (go_at_call 51; go_must (refine (fail_is _ _ _ _).mono ?_; rintro e w7 ⟨rfl, hk7⟩; have h9 : OutB ρ b T w R (thrown 2 (pl2 : Int) ⟨#[]⟩) w7 := outB_err hR2.symm (HW4.out.kept hk7).1; unfold thrown at h9 ⊢))
    exact ⟨rfl, h9⟩
  have e1 : ((pn : Int) == 512) = false := by simp; omega
  rw [if_neg h512] at hR2
  have HP512 := hide1 (show pn < 512 by have := HF.out.prd; have := HPN2.out; omega)
  have HQ0 := hide1 hR2
  clear hR2 h512
  have d5 := HB4.out.cells.1.2.2.2.2.2.1
  dsimp only at d5
  go_upto_region 5 with fail
  have HBA := hide1 (HB4.out.kept ((Kept.refl W4).alloc (encPrd (left, none, 0, 0)).toArray 66))
  have HTA := hide1 (HT4.out.keep ((Kept.refl W4).alloc (encPrd (left, none, 0, 0)).toArray 66))
  have HWA := hide1 (HW4.out.kept ((Kept.refl W4).alloc (encPrd (left, none, 0, 0)).toArray 66))
  go_upto_region 6 with (at_builtin; refine wpl_lo (E := prdE) rfl _ _ rfl 0 (.slice pa pn pc) ps pn HPN.out (by rfl) HBA.out.prd W4.heap.size (left, none, 0, 0) (by rfl) (heap_alloc_new W4 _) (by show (pn + 1) * 32 ≤ _; have := HP512.out; omega) (by unfold maxLen; have := HP512.out; omega) (Nat.zero_le _) ?_; intro g9 c9 w9 ho9 hg9 hor9 hl9; have HAD := hide1 (HBA.out.addP ho9 hg9 hor9 hl9); have HBX := hide1 (show BoxR w9 b T _ _ _ _ _ _ from (grown_far HBA.out.o4 (by decide) hg9 HBA.out.ltb HBA.out.o0).trans HBA.out.box); have HTX := hide1 (show TkB w9 g6 kd2 (pl2 : Int) wd2 from (grown_far HBA.out.o4 (by decide) hg9 (Array.getElem?_eq_some_iff.1 HTA.out).1 HGR.out).trans HTA.out); have rz5 := HBX.out.cells.2 5; have r5 := HBX.out.cells.1.2.2.2.2.2.1; dsimp only at r5; have hlb9 : b < w9.heap.size := (Array.getElem?_eq_some_iff.1 HBX.out).1; have HGR9 := hide1 ((HAD.out.2.2 g6 (Array.getElem?_eq_some_iff.1 HTA.out).1).trans HGR.out); clear ho9 hg9 hor9)
  obtain ⟨HBY, HWY⟩ := HAD.out
  have HBY := hide1 HBY
  have HWY := hide1 (HWA.out.trans HWY)
  have HTY := hide1 (show TkB (w9.setCell ⟨b, 5, none⟩ (.slice (some ⟨g9, 0, none⟩) (pn + 1) c9)) g6 kd2 (pl2 : Int) wd2 from (set_heap_ne HGB.out).trans HTX.out)
  clear HAD HBX HTX rz5 r5 hlb9 HBA HTA HWA HT4 HB4 HW4 HGR d5
  obtain ⟨ρ5, hρ5⟩ : ∃ r, updR ρ g9 4 = r := ⟨_, rfl⟩
  rw [hρ5] at HBY HWY HGR9
  generalize w9.setCell ⟨b, 5, none⟩ (.slice (some ⟨g9, 0, none⟩) (pn + 1) c9) = WY at HBY HWY HTY ⊢
  have HI0 : Hid (RgI ρ b T w g6 pn R 0 WY) := by
    refine ⟨_, ⟨kd2, pl2, wd2, nx⟩, ρ5, HQ0.out, HBY.out.a, HWY.out, HTY.out, HGR9.out, ?_, ?_, ?_⟩
    · exact ⟨HNF.out.1, by have := HF.out.use; have := HNK.out; show s.use.length ≤ nx; omega, HF.out.lex, HF.out.nam, by show (s.prd ++ [left]).length ≤ 512; rw [List.length_append, List.length_singleton, HPN2.out]; exact HP512.out, HF.out.gn, fun u hu => ⟨(HF.out.pr u hu).1, by show _ < ((s.prd ++ [left]).length : Int); rw [List.length_append, List.length_singleton]; have := (HF.out.pr u hu).2; omega⟩, by show (s.sds ++ [[]]).length = (s.prd ++ [left]).length; rw [List.length_append, List.length_append, HF.out.sds]; rfl⟩
    · show pn < (s.prd ++ [left]).length
      rw [List.length_append, List.length_singleton, HPN2.out]; omega
    · show s.use.length + 1 ≤ nx
      have := HF.out.use; have := HNK.out; omega
  clear HBY HWY HTY HGR9 HQ0 HNF HNK hρ5 HN HF HPN HPN2
  go_wp2_with fail
  go_loopw [7] (fun v7 wr => ∃ n : Nat, v7 = .int .i64 (n : Int) ∧ n ≤ 16 ∧ Hid (RgI ρ b T w g6 pn R n wr)) (fun v7 _ => 17 - (intOf v7).toNat)
  case atStart => exact ⟨0, rfl, by omega, HI0.out⟩
  case round =>
    clear HI0
    obtain ⟨n, rfl, hn, hI⟩ := hrel
    obtain ⟨s1, ⟨kd1, pl1, wd1, nx1⟩, ρ1, hq, ha1, hw1, ht1, hr1, hf1, hp1, hu1⟩ := hI.out
    dsimp only at ht1
    have HT1 := hide1 ht1
    have HQ1 := hide1 hq
    have HW1 := hide1 hw1
    have HR1 := hide1 hr1
    have HF1 := hide1 hf1
    have HP1 := hide1 hp1
    have HU1 := hide1 hu1
    have HNN := hide1 hn
    obtain ⟨⟨t0, t1, t2⟩, -⟩ := ht1.facts
    clear hI hq hw1 ht1 hr1 hf1 hp1 hu1 hn
    by_cases hkd : kd1 = 2
    case neg =>
      have e2 : (kd1 == 2) = false := by simpa using hkd
      have h9 : OutB ρ b T w R (.returned (.bool (kd1 == 124))) wr := outB_ok ((HQ1.out.symm.trans (side_stop hkd)).trans (by rfl)) ha1 HW1.out
      have H9 := hide1 h9
      clear ha1 h9 hkd
      go_wp2_with fail
      first | exact H9.out | (go_ret; exact H9.out)
    subst hkd
    by_cases h16 : n = 16
    · subst h16
      have h0 := HQ1.out.symm.trans (side_long rfl)
      have e16 : (((16 : Nat) : Int) == 16) = true := rfl
      go_wp2_with (go_at_call 51; go_must (refine (fail_is _ _ _ _).mono ?_; rintro e w7 ⟨rfl, hk7⟩; have h9 : OutB ρ b T w R (thrown 2 (pl1 : Int) ⟨#[]⟩) w7 := outB_err h0 (HW1.out.kept hk7).1; unfold thrown at h9 ⊢))
      exact ⟨rfl, h9⟩
    have e16 : ((n : Int) == 16) = false := by simp; omega
    have HN16 := hide1 (show n < 16 by have := HNN.out; omega)
    have hnI : (n : Int) < 16 := by have := HN16.out; omega
    clear h16
    obtain ⟨X2, hX2⟩ : ∃ X, partM T s1.k = X := ⟨_, rfl⟩
    have hQ2 := (side_step (T := T) (pr := (pn : Int)) (s := s1) (N := ⟨2, pl1, wd1, nx1⟩) rfl HN16.out).symm.trans HQ1.out
    rw [hX2] at hQ2
    have HQ2 := hide1 hQ2
    have HPT : Hid (∀ w ρ s, s.k = s1.k → ScAt w b T s1.k → Calls Tryz.prog 109 #[.pointer (some ⟨b, 0, none⟩)] w (OutT ρ b T w s X2)) := fun w ρ s hs h => by
      rw [← hX2, ← hs]
      exact part_is T HT.out b w ρ s (by rw [hs]; exact h) (by rw [hs]; exact HF1.out.k)
    have HX2 : Hid (∀ N, X2 = .ok N → N = nextM T s1.k ∧ N.kd ≠ 0) := fun N h => by
      have h2 := part_eq (hX2.trans h)
      exact ⟨h2.1, h2.2.2⟩
    clear hX2 hQ2 HQ1
    obtain ⟨xL1, xN1, xP1, ⟨ua, un, uc⟩, m1, its1, ps1, hb1⟩ := ha1
    have HBr := hide1 hb1
    have HTr := hide1 HT1.out
    have HUL := hide1 (lo_lens (show LO useE _ 0 (.slice ua un uc) s1.use from hb1.use))
    have HUN := hide1 (show un ≤ 100000 by have := HF1.out.use; have := HF1.out.k; have := HUL.out; have := HT.out; omega)
    clear hb1 HT1
    go_upto_region 11 with fail
    clear t0 t1 t2
    refine z_region (S := fun w' => BoxR w' b T s1 xL1 xN1 xP1 (ua, un, uc) m1 ∧ TkB w' g6 2 (pl1 : Int) wd1) 12 (by kernel_rfl) ⟨(HBr.out.kept (drew_kept _)).box, HTr.out.keep (drew_kept _)⟩ (fun hHeld => ?_)
    refine tkZ 0 (.pointer (some ⟨b, 0, none⟩)) [12] rfl (fun w' hSw => ?_) ?_
    · clear hSw
      go_simp
    try simp only [layS]
    refine tkZ 1 (.pointer (some ⟨b, 0, none⟩)) [12] rfl (fun w' hSw => ?_) ?_
    · clear hSw
      go_simp
    try simp only [layS]
    refine tkZ 2 (.pointer (some ⟨b, 0, none⟩)) [12] rfl (fun w' hSw => ?_) ?_
    · clear hSw
      go_simp
    try simp only [layS]
    refine tkZ 3 (.pointer (some ⟨b, 7, none⟩)) [12] rfl (fun w' hSw => ?_) ?_
    · clear hSw
      go_simp
    try simp only [layS]
    refine tkZ 4 (.slice ua un uc) [12] rfl (fun w' hSw => ?_) ?_
    · obtain ⟨⟨q0, q1, q2, q3, q4, q5, q6, q7, q8⟩, -⟩ := hSw.1.cells; dsimp only at q7
      go_simp
    try simp only [layS]
    refine tkZ 5 (.agg #[.int .i64 2, .int .i64 (pl1 : Int), .string wd1]) [12] rfl (fun w' hSw => ?_) ?_
    · obtain ⟨⟨q0, q1, q2⟩, -⟩ := hSw.2.facts
      go_simp
    try simp only [layS]
    refine tkZ 6 (.int .i64 (pn : Int)) [12] rfl (fun w' hSw => ?_) ?_
    · clear hSw
      go_simp
    try simp only [layS]
    refine tkZ 7 (.agg #[.int .i64 2, .int .i64 (pl1 : Int), .string wd1, .int .i64 (pn : Int)]) [12] rfl (fun w' hSw => ?_) ?_
    · clear hSw
      go_simp
    try simp only [layS]
    refine z_one (i := 8) (by kernel_rfl) (by rfl) rfl (fun K hK => ?_)
    go_simp
    refine hK.out _ _ ⟨(HBr.out.kept ((gtrans (drew_kept _) ((Kept.refl _).alloc _ _)))).box, HTr.out.keep (gtrans (drew_kept _) ((Kept.refl _).alloc _ _))⟩ (fun hHeldN => ?_)
    clear hK K hHeld
    have hHeld := hHeldN
    clear hHeldN
    try simp only [layS]
    refine z_one (i := 9) (by kernel_rfl) (by rfl) rfl (fun K hK => ?_)
    have HB6 := hide1 (HBr.out.kept (gtrans (drew_kept _) ((Kept.refl wr.drew).alloc (encUse (2, (pl1 : Int), wd1, (pn : Int))).toArray 137)))
    have HT6 := hide1 (HTr.out.keep (gtrans (drew_kept _) ((Kept.refl wr.drew).alloc (encUse (2, (pl1 : Int), wd1, (pn : Int))).toArray 137)))
    refine step_lo (E := useE) rfl _ _ rfl 0 (.slice ua un uc) s1.use un HUL.out (by rfl) HB6.out.use wr.drew.heap.size (2, (pl1 : Int), wd1, (pn : Int)) (by rfl) (heap_alloc_new wr.drew _) (by show (un + 1) * 40 ≤ _; have := HUN.out; omega) (by unfold maxLen; have := HUN.out; omega) (Nat.zero_le _) ?_
    intro g9 c9 w9 ho9 hg9 hor9 hl9
    have HAD := hide1 (HB6.out.addU ho9 hg9 hor9 hl9)
    have HBX := hide1 (show BoxR w9 b T _ _ _ _ _ _ from (grown_far HB6.out.o5 (by decide) hg9 HB6.out.ltb HB6.out.o0).trans HB6.out.box)
    have HTX := hide1 (show TkB w9 g6 2 (pl1 : Int) wd1 from (grown_far HB6.out.o5 (by decide) hg9 (Array.getElem?_eq_some_iff.1 HT6.out).1 HR1.out).trans HT6.out)
    refine hK.out _ _ ⟨HBX.out, HTX.out⟩ (fun hHeldN => ?_)
    clear hK K hHeld
    have hHeld := hHeldN
    clear hHeldN
    try simp only [layS]
    refine tkZ 10 (.pointer (some ⟨b, 0, none⟩)) [11, 12] rfl (fun w' hSw => ?_) ?_
    · clear hSw
      go_simp
    try simp only [layS]
    refine tkZ 11 (.pointer (some ⟨b, 7, none⟩)) [12] rfl (fun w' hSw => ?_) ?_
    · clear hSw
      go_simp
    try simp only [layS]
    refine z_last (by kernel_rfl) (by kernel_rfl) rfl (fun K hK => ?_)
    obtain ⟨⟨r0, r1, r2, r3, r4, r5, r6, r7, r8⟩, rz⟩ := HBX.out.cells
    have rz7 := rz 7
    have hlb9 : b < w9.heap.size := (Array.getElem?_eq_some_iff.1 HBX.out).1
    clear rz r0 r1 r2 r3 r4 r5 r6 r8
    dsimp only at r7
    go_simp
    refine hK.out _ _ ?_
    clear hK K hHeld r7 rz7 hlb9 ho9 hg9 hor9
    obtain ⟨HBY, HWY⟩ := HAD.out
    have HGRY := hide1 ((HWY.2 g6 (Array.getElem?_eq_some_iff.1 HT6.out).1).trans HR1.out)
    have HBY := hide1 HBY
    have HWY := hide1 ((HW1.out.kept (gtrans (drew_kept _) ((Kept.refl _).alloc _ _))).trans HWY)
    have HTY := hide1 (show TkB (w9.setCell ⟨b, 7, none⟩ (.slice (some ⟨g9, 0, none⟩) (un + 1) c9)) g6 2 (pl1 : Int) wd1 from (set_heap_ne HGB.out).trans HTX.out)
    clear HAD HBX HTX HB6 HT6 HBr HTr HR1
    obtain ⟨ρ5, hρ5⟩ : ∃ r, updR ρ1 g9 5 = r := ⟨_, rfl⟩
    rw [hρ5] at HBY HWY HGRY
    generalize w9.setCell ⟨b, 7, none⟩ (.slice (some ⟨g9, 0, none⟩) (un + 1) c9) = WY at HBY HWY HTY ⊢
    go_upto_region 12 with fail
    go_wp2_with fail
    go_at_call 109
    refine (HPT.out _ ρ5 _ rfl HBY.out.sc).mono ?_
    intro e w3 h3
    rcases X2 with f | N
    · obtain ⟨rfl, hf3⟩ := h3
      have h9 : OutB ρ b T w R (thrown f.1 f.2.1 f.2.2) w3 := outB_err (show R = .error (f.1, f.2.1, f.2.2) from HQ2.out.symm) (HWY.out.fr hf3)
      unfold thrown at h9 ⊢
      go_wp2_with fail
      exact ⟨rfl, h9⟩
    obtain ⟨rfl, hm3⟩ := h3
    have HN := hide1 (HX2.out N rfl)
    have HNF := hide1 (next_facts HF1.out.k)
    rw [← HN.out.1] at HNF
    have HNK := hide1 (HNF.out.2.2.2.2.2 HN.out.2)
    obtain ⟨kd3, pl3, wd3, nx3⟩ := N
    dsimp only at hm3 HNF HNK
    have hQ3 : sideM T (pn : Int) (18 - (n + 1)) (n + 1) ⟨kd3, pl3, wd3, nx3⟩ { s1 with k := nx3, use := s1.use ++ [(2, (pl1 : Int), wd1, (pn : Int))] } = R := HQ2.out
    have HB3 := hide1 (HBY.out.mv hm3)
    have HW3 := hide1 (HWY.out.mv hm3)
    have HT3 := hide1 (HTY.out.mv hm3 HGB.out)
    obtain ⟨⟨k0, k1, k2⟩, z0, z1, z2⟩ := HT3.out.facts
    have hlg3 := (Array.getElem?_eq_some_iff.1 HT3.out).1
    clear hm3 HPT HX2 HQ2 HBY HWY HTY
    go_wp2_with fail
    refine ⟨⟨n + 1, by rfl, HN16.out, ?_⟩, ?_⟩
    · have s0 := HT3.out.set kd3 0 ⟨#[]⟩
      refine ⟨_, ⟨kd3, pl3, wd3, nx3⟩, ρ5, hQ3, (((HB3.out.set HGRY.out HGB.out 0 (.int .i64 kd3)).set HGRY.out HGB.out 1 (.int .i64 (pl3 : Int))).set HGRY.out HGB.out 2 (.string wd3)).a, ((HW3.out.set HGW.out 0 _).set HGW.out 1 _).set HGW.out 2 _, ((((HT3.out.set kd3 0 ⟨#[]⟩).1.set 0 (pl3 : Int) ⟨#[]⟩).2.1).set 0 0 wd3).2.2, HGRY.out, ?_, ?_, ?_⟩
      · exact ⟨HNF.out.1, by show (s1.use ++ [(2, (pl1 : Int), wd1, (pn : Int))]).length ≤ nx3; rw [List.length_append, List.length_singleton]; have := HU1.out; have := HNK.out; omega, HF1.out.lex, HF1.out.nam, HF1.out.prd, HF1.out.gn, fun u hu => by
          rcases List.mem_append.1 hu with hu | hu
          · exact HF1.out.pr u hu
          · simp only [List.mem_cons, List.not_mem_nil, or_false] at hu
            subst hu
            exact ⟨by show (-1 : Int) ≤ (pn : Int); omega, by show (pn : Int) < _; have := HP1.out; dsimp only; omega⟩, HF1.out.sds⟩
      · exact HP1.out
      · show (s1.use ++ [(2, (pl1 : Int), wd1, (pn : Int))]).length + 1 ≤ nx3
        rw [List.length_append, List.length_singleton]; have := HU1.out; have := HNK.out; omega
    · have := HN16.out
      simp [intOf]; omega
end Gs
end Ex
end Go.Proofs.YtbnchnlogikecaaGreatDoor
