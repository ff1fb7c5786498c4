import Derived.Test.YtbnchnlogikecaaGreatDoorMGt9
import Derived.Test.YtbnchnlogikecaaGreatDoorMGt7
import Derived.Deep.DeepMust
import Derived.BigQuiet
namespace Go.Proofs.YtbnchnlogikecaaGreatDoor
open Go.RowKit
attribute [local go_sem] Oper.semAt_some
set_option linter.unusedVariables false
namespace Ex
namespace Gs
open Sh

theorem stOf_cases (wd : ByteArray) : stOf wd = 0 ∨ stOf wd = 1 ∨ stOf wd = 2 ∨ stOf wd = 3 := by
  unfold stOf
  by_cases h0 : stW 0 = wd
  · rw [if_pos h0]; exact .inl rfl
  · rw [if_neg h0]
    by_cases h1 : stW 1 = wd
    · rw [if_pos h1]; exact .inr (.inl rfl)
    · rw [if_neg h1]
      by_cases h2 : stW 2 = wd
      · rw [if_pos h2]; exact .inr (.inr (.inl rfl))
      · rw [if_neg h2]; exact .inr (.inr (.inr rfl))
set_option linter.unusedSimpArgs false in
set_option maxRecDepth 100000 in
set_option maxHeartbeats 4000000 in
theorem word1_is (T : ByteArray) (hT : T.size ≤ 100000) (b : Nat) (kd pl : Int) (wd : ByteArray) (w : World) (ρ : Nat → Nat) (s : RSt) (h : RdA ρ w b T s) (hf : Wf T s) :
    Calls Tryz.prog 102 #[.pointer (some ⟨b, 0, none⟩), .agg #[.int .i64 kd, .int .i64 pl, .string wd]] w (OutR ρ b T w (ruleM T pl false s)) := by
  obtain ⟨R, hR⟩ : ∃ R, ruleM T pl false s = R := ⟨_, rfl⟩
  rw [hR]
  have HC : Hid (∀ w ρ, RdA ρ w b T s → Calls Tryz.prog 103 #[.pointer (some ⟨b, 0, none⟩), .agg #[.int .i64 kd, .int .i64 pl, .string wd], .bool false] w (OutR ρ b T w R)) := fun w ρ h => by
    rw [← hR]
    exact rule_is T hT b kd pl wd false w ρ s h hf.k (by have := hf.gn; have := hf.lex; have := hf.nam; omega) hf.lex
  have HA1 := hide1 (h.kept ((Kept.refl w).alloc #[.int .i64 kd, .int .i64 pl, .string wd] 104))
  have HW1 := hide1 ((Went.refl ρ b w).kept ((Kept.refl w).alloc #[.int .i64 kd, .int .i64 pl, .string wd] 104))
  have HT1 := hide1 (fact3 w kd pl wd)
  clear hR h hf hT
  go_enter Tryz.func102, Tryz.ntmps102
  go_upto_region 1 with fail
  obtain ⟨g3, hg3⟩ : ∃ g, w.heap.size = g := ⟨_, rfl⟩
  generalize w.alloc (.cells #[.int .i64 kd, .int .i64 pl, .string wd] 104) = W1 at HA1 HW1 HT1 ⊢
  rw [hg3] at HT1 ⊢
  clear hg3
  obtain ⟨⟨t0, t1, t2⟩, -⟩ := HT1.out.facts
  go_wp2_with fail
  go_at_call 103
  refine (HC.out _ _ HA1.out).mono ?_
  intro e w8 h8
  have h9 := OutR.after HW1.out h8
  rcases R with f | s8
  · obtain ⟨rfl, -⟩ := id h9
    unfold thrown
    go_wp2_with fail
    exact ⟨rfl, h9⟩
  · obtain ⟨rfl, -⟩ := id h9
    go_wp2_with fail
    go_end0
    exact h9
set_option linter.unusedSimpArgs false in
set_option maxRecDepth 100000 in
set_option maxHeartbeats 4000000 in
theorem word2_is (T : ByteArray) (hT : T.size ≤ 100000) (b : Nat) (kd pl : Int) (wd : ByteArray) (w : World) (ρ : Nat → Nat) (s : RSt) (h : RdA ρ w b T s) (hf : Wf T s) :
    Calls Tryz.prog 104 #[.pointer (some ⟨b, 0, none⟩), .agg #[.int .i64 kd, .int .i64 pl, .string wd]] w (OutR ρ b T w (ruleM T pl true s)) := by
  obtain ⟨R, hR⟩ : ∃ R, ruleM T pl true s = R := ⟨_, rfl⟩
  rw [hR]
  have HC : Hid (∀ w ρ, RdA ρ w b T s → Calls Tryz.prog 103 #[.pointer (some ⟨b, 0, none⟩), .agg #[.int .i64 kd, .int .i64 pl, .string wd], .bool true] w (OutR ρ b T w R)) := fun w ρ h => by
    rw [← hR]
    exact rule_is T hT b kd pl wd true w ρ s h hf.k (by have := hf.gn; have := hf.lex; have := hf.nam; omega) hf.lex
  have HA1 := hide1 (h.kept ((Kept.refl w).alloc #[.int .i64 kd, .int .i64 pl, .string wd] 104))
  have HW1 := hide1 ((Went.refl ρ b w).kept ((Kept.refl w).alloc #[.int .i64 kd, .int .i64 pl, .string wd] 104))
  have HT1 := hide1 (fact3 w kd pl wd)
  clear hR h hf hT
  go_enter Tryz.func104, Tryz.ntmps104
  go_upto_region 1 with fail
  obtain ⟨g3, hg3⟩ : ∃ g, w.heap.size = g := ⟨_, rfl⟩
  generalize w.alloc (.cells #[.int .i64 kd, .int .i64 pl, .string wd] 104) = W1 at HA1 HW1 HT1 ⊢
  rw [hg3] at HT1 ⊢
  clear hg3
  obtain ⟨⟨t0, t1, t2⟩, -⟩ := HT1.out.facts
  go_wp2_with fail
  go_at_call 103
  refine (HC.out _ _ HA1.out).mono ?_
  intro e w8 h8
  have h9 := OutR.after HW1.out h8
  rcases R with f | s8
  · obtain ⟨rfl, -⟩ := id h9
    unfold thrown
    go_wp2_with fail
    exact ⟨rfl, h9⟩
  · obtain ⟨rfl, -⟩ := id h9
    go_wp2_with fail
    go_end0
    exact h9
set_option linter.unusedSimpArgs false in
set_option maxRecDepth 100000 in
set_option maxHeartbeats 4000000 in
theorem word3_is (T : ByteArray) (hT : T.size ≤ 100000) (b : Nat) (kd pl : Int) (wd : ByteArray) (w : World) (ρ : Nat → Nat) (s : RSt) (h : RdA ρ w b T s) (hf : Wf T s) :
    Calls Tryz.prog 105 #[.pointer (some ⟨b, 0, none⟩), .agg #[.int .i64 kd, .int .i64 pl, .string wd]] w (OutR ρ b T w (startM T pl s)) := by
  obtain ⟨R, hR⟩ : ∃ R, startM T pl s = R := ⟨_, rfl⟩
  rw [hR]
  have HC : Hid (∀ w ρ, RdA ρ w b T s → Calls Tryz.prog 106 #[.pointer (some ⟨b, 0, none⟩), .agg #[.int .i64 kd, .int .i64 pl, .string wd]] w (OutR ρ b T w R)) := fun w ρ h => by
    rw [← hR]
    exact start_is T hT b kd pl wd w ρ s h hf.k (by have := hf.use; have := hf.k; omega)
  have HA1 := hide1 (h.kept ((Kept.refl w).alloc #[.int .i64 kd, .int .i64 pl, .string wd] 104))
  have HW1 := hide1 ((Went.refl ρ b w).kept ((Kept.refl w).alloc #[.int .i64 kd, .int .i64 pl, .string wd] 104))
  have HT1 := hide1 (fact3 w kd pl wd)
  clear hR h hf hT
  go_enter Tryz.func105, Tryz.ntmps105
  go_upto_region 1 with fail
  obtain ⟨g3, hg3⟩ : ∃ g, w.heap.size = g := ⟨_, rfl⟩
  generalize w.alloc (.cells #[.int .i64 kd, .int .i64 pl, .string wd] 104) = W1 at HA1 HW1 HT1 ⊢
  rw [hg3] at HT1 ⊢
  clear hg3
  obtain ⟨⟨t0, t1, t2⟩, -⟩ := HT1.out.facts
  go_wp2_with fail
  go_at_call 106
  refine (HC.out _ _ HA1.out).mono ?_
  intro e w8 h8
  have h9 := OutR.after HW1.out h8
  rcases R with f | s8
  · obtain ⟨rfl, -⟩ := id h9
    unfold thrown
    go_wp2_with fail
    exact ⟨rfl, h9⟩
  · obtain ⟨rfl, -⟩ := id h9
    go_wp2_with fail
    go_end0
    exact h9
set_option linter.unusedSimpArgs false in
set_option maxRecDepth 100000 in
set_option maxHeartbeats 4000000 in
theorem stat_is (T : ByteArray) (hT : T.size ≤ 100000) (b : Nat) (N : Tok) (w : World) (ρ : Nat → Nat) (s : RSt) (h : RdA ρ w b T s) (hf : Wf T s) (hwd : N.wd.size ≤ 100000) :
    Calls Tryz.prog 50 #[.pointer (some ⟨b, 0, none⟩), .agg #[.int .i64 N.kd, .int .i64 (N.pl : Int), .string N.wd]] w (OutR ρ b T w (statM T N s)) := by
  obtain ⟨kd, plN, wd, nx⟩ := N
  obtain ⟨R, hR⟩ : ∃ R, statM T ⟨kd, plN, wd, nx⟩ s = R := ⟨_, rfl⟩
  rw [hR]
  dsimp only at hwd ⊢
  have HR := hide1 hR
  have HT := hide1 hT
  have HF := hide1 hf
  have HWD := hide1 hwd
  obtain ⟨pl, hpl⟩ : ∃ p : Int, (plN : Int) = p := ⟨_, rfl⟩
  rw [hpl]
  have HA1 := hide1 (h.kept ((Kept.refl w).alloc #[.int .i64 kd, .int .i64 pl, .string wd] 104))
  have HW1 := hide1 ((Went.refl ρ b w).kept ((Kept.refl w).alloc #[.int .i64 kd, .int .i64 pl, .string wd] 104))
  have HT1 := hide1 (fact3 w kd pl wd)
  clear hR h hf hT hwd
  have HPL := hide1 hpl
  rcases stOf_cases wd with hst | hst | hst | hst
  · have HSO : Hid (∀ w, Calls Tryz.prog 71 #[.string wd] w fun e w' => e = .returned (.tuple #[.agg #[.string (stW 0), .func (.func 102) #[] #[]], .bool true]) ∧ Kept w w') := fun w => by
      have h := statementOf_is wd w
      unfold stV at h
      rw [hst] at h
      exact h
    have HC : Hid (∀ w ρ, RdA ρ w b T s → Calls Tryz.prog 102 #[.pointer (some ⟨b, 0, none⟩), .agg #[.int .i64 kd, .int .i64 pl, .string wd]] w (OutR ρ b T w R)) := fun w ρ h => by
      subst hpl
      have hc := word1_is T HT.out b kd (plN : Int) wd w ρ s h HF.out
      rw [← HR.out]
      unfold statM
      dsimp only
      rw [if_pos hst]
      exact hc
    clear hst hpl
    go_enter Tryz.func50, Tryz.ntmps50
    go_upto_region 1 with fail
    obtain ⟨g3, hg3⟩ : ∃ g, w.heap.size = g := ⟨_, rfl⟩
    generalize w.alloc (.cells #[.int .i64 kd, .int .i64 pl, .string wd] 104) = W1 at HA1 HW1 HT1 ⊢
    rw [hg3] at HT1 ⊢
    clear hg3
    obtain ⟨⟨t0, t1, t2⟩, -⟩ := HT1.out.facts
    go_upto_region 2 with (go_at_call 71; go_must (refine (HSO.out _).mono ?_; rintro e w2 ⟨rfl, hk2⟩; have HA2 := hide1 ((HA1.out.kept hk2).kept ((Kept.refl w2).alloc #[.string (stW 0), .func (.func 102) #[] #[]] 133)); have HW2 := hide1 ((HW1.out.kept hk2).kept ((Kept.refl w2).alloc #[.string (stW 0), .func (.func 102) #[] #[]] 133)); have HT2 := hide1 ((HT1.out.keep hk2).keep ((Kept.refl w2).alloc #[.string (stW 0), .func (.func 102) #[] #[]] 133)); have HF2 : Hid (FnB (w2.alloc (.cells #[.string (stW 0), .func (.func 102) #[] #[]] 133)) w2.heap.size _ _) := heap_alloc_new w2 _; clear hk2))
    obtain ⟨g4, hg4⟩ : ∃ g, w2.heap.size = g := ⟨_, rfl⟩
    generalize w2.alloc (.cells #[.string (stW 0), .func (.func 102) #[] #[]] 133) = W2 at HA2 HW2 HT2 HF2 ⊢
    rw [hg4] at HF2 ⊢
    clear hg4 t0 t1 t2
    obtain ⟨⟨t0, t1, t2⟩, -⟩ := HT2.out.facts
    obtain ⟨⟨f0, f1⟩, -⟩ := HF2.out.facts
    go_wp2_with fail
    go_at_call 102
    refine (HC.out _ _ HA2.out).mono ?_
    intro e w8 h8
    have h9 := OutR.after HW2.out h8
    rcases R with f | s8
    · obtain ⟨rfl, -⟩ := id h9
      unfold thrown
      go_wp2_with fail
      exact ⟨rfl, h9⟩
    · obtain ⟨rfl, -⟩ := id h9
      go_wp2_with fail
      go_end0
      exact h9
  · have HSO : Hid (∀ w, Calls Tryz.prog 71 #[.string wd] w fun e w' => e = .returned (.tuple #[.agg #[.string (stW 1), .func (.func 104) #[] #[]], .bool true]) ∧ Kept w w') := fun w => by
      have h := statementOf_is wd w
      unfold stV at h
      rw [hst] at h
      exact h
    have HC : Hid (∀ w ρ, RdA ρ w b T s → Calls Tryz.prog 104 #[.pointer (some ⟨b, 0, none⟩), .agg #[.int .i64 kd, .int .i64 pl, .string wd]] w (OutR ρ b T w R)) := fun w ρ h => by
      subst hpl
      have hc := word2_is T HT.out b kd (plN : Int) wd w ρ s h HF.out
      rw [← HR.out]
      unfold statM
      dsimp only
      rw [if_neg (by omega), if_pos hst]
      exact hc
    clear hst hpl
    go_enter Tryz.func50, Tryz.ntmps50
    go_upto_region 1 with fail
    obtain ⟨g3, hg3⟩ : ∃ g, w.heap.size = g := ⟨_, rfl⟩
    generalize w.alloc (.cells #[.int .i64 kd, .int .i64 pl, .string wd] 104) = W1 at HA1 HW1 HT1 ⊢
    rw [hg3] at HT1 ⊢
    clear hg3
    obtain ⟨⟨t0, t1, t2⟩, -⟩ := HT1.out.facts
    go_upto_region 2 with (go_at_call 71; go_must (refine (HSO.out _).mono ?_; rintro e w2 ⟨rfl, hk2⟩; have HA2 := hide1 ((HA1.out.kept hk2).kept ((Kept.refl w2).alloc #[.string (stW 1), .func (.func 104) #[] #[]] 133)); have HW2 := hide1 ((HW1.out.kept hk2).kept ((Kept.refl w2).alloc #[.string (stW 1), .func (.func 104) #[] #[]] 133)); have HT2 := hide1 ((HT1.out.keep hk2).keep ((Kept.refl w2).alloc #[.string (stW 1), .func (.func 104) #[] #[]] 133)); have HF2 : Hid (FnB (w2.alloc (.cells #[.string (stW 1), .func (.func 104) #[] #[]] 133)) w2.heap.size _ _) := heap_alloc_new w2 _; clear hk2))
    obtain ⟨g4, hg4⟩ : ∃ g, w2.heap.size = g := ⟨_, rfl⟩
    generalize w2.alloc (.cells #[.string (stW 1), .func (.func 104) #[] #[]] 133) = W2 at HA2 HW2 HT2 HF2 ⊢
    rw [hg4] at HF2 ⊢
    clear hg4 t0 t1 t2
    obtain ⟨⟨t0, t1, t2⟩, -⟩ := HT2.out.facts
    obtain ⟨⟨f0, f1⟩, -⟩ := HF2.out.facts
    go_wp2_with fail
    go_at_call 104
    refine (HC.out _ _ HA2.out).mono ?_
    intro e w8 h8
    have h9 := OutR.after HW2.out h8
    rcases R with f | s8
    · obtain ⟨rfl, -⟩ := id h9
      unfold thrown
      go_wp2_with fail
      exact ⟨rfl, h9⟩
    · obtain ⟨rfl, -⟩ := id h9
      go_wp2_with fail
      go_end0
      exact h9
  · have HSO : Hid (∀ w, Calls Tryz.prog 71 #[.string wd] w fun e w' => e = .returned (.tuple #[.agg #[.string (stW 2), .func (.func 105) #[] #[]], .bool true]) ∧ Kept w w') := fun w => by
      have h := statementOf_is wd w
      unfold stV at h
      rw [hst] at h
      exact h
    have HC : Hid (∀ w ρ, RdA ρ w b T s → Calls Tryz.prog 105 #[.pointer (some ⟨b, 0, none⟩), .agg #[.int .i64 kd, .int .i64 pl, .string wd]] w (OutR ρ b T w R)) := fun w ρ h => by
      subst hpl
      have hc := word3_is T HT.out b kd (plN : Int) wd w ρ s h HF.out
      rw [← HR.out]
      unfold statM
      dsimp only
      rw [if_neg (by omega), if_neg (by omega), if_pos hst]
      exact hc
    clear hst hpl
    go_enter Tryz.func50, Tryz.ntmps50
    go_upto_region 1 with fail
    obtain ⟨g3, hg3⟩ : ∃ g, w.heap.size = g := ⟨_, rfl⟩
    generalize w.alloc (.cells #[.int .i64 kd, .int .i64 pl, .string wd] 104) = W1 at HA1 HW1 HT1 ⊢
    rw [hg3] at HT1 ⊢
    clear hg3
    obtain ⟨⟨t0, t1, t2⟩, -⟩ := HT1.out.facts
    go_upto_region 2 with (go_at_call 71; go_must (refine (HSO.out _).mono ?_; rintro e w2 ⟨rfl, hk2⟩; have HA2 := hide1 ((HA1.out.kept hk2).kept ((Kept.refl w2).alloc #[.string (stW 2), .func (.func 105) #[] #[]] 133)); have HW2 := hide1 ((HW1.out.kept hk2).kept ((Kept.refl w2).alloc #[.string (stW 2), .func (.func 105) #[] #[]] 133)); have HT2 := hide1 ((HT1.out.keep hk2).keep ((Kept.refl w2).alloc #[.string (stW 2), .func (.func 105) #[] #[]] 133)); have HF2 : Hid (FnB (w2.alloc (.cells #[.string (stW 2), .func (.func 105) #[] #[]] 133)) w2.heap.size _ _) := heap_alloc_new w2 _; clear hk2))
    obtain ⟨g4, hg4⟩ : ∃ g, w2.heap.size = g := ⟨_, rfl⟩
    generalize w2.alloc (.cells #[.string (stW 2), .func (.func 105) #[] #[]] 133) = W2 at HA2 HW2 HT2 HF2 ⊢
    rw [hg4] at HF2 ⊢
    clear hg4 t0 t1 t2
    obtain ⟨⟨t0, t1, t2⟩, -⟩ := HT2.out.facts
    obtain ⟨⟨f0, f1⟩, -⟩ := HF2.out.facts
    go_wp2_with fail
    go_at_call 105
    refine (HC.out _ _ HA2.out).mono ?_
    intro e w8 h8
    have h9 := OutR.after HW2.out h8
    rcases R with f | s8
    · obtain ⟨rfl, -⟩ := id h9
      unfold thrown
      go_wp2_with fail
      exact ⟨rfl, h9⟩
    · obtain ⟨rfl, -⟩ := id h9
      go_wp2_with fail
      go_end0
      exact h9
  · have HSO : Hid (∀ w, Calls Tryz.prog 71 #[.string wd] w fun e w' => e = .returned (.tuple #[.agg #[.string ⟨#[]⟩, .nilFunc], .bool false]) ∧ Kept w w') := fun w => by
      have h := statementOf_is wd w
      unfold stV at h
      rw [hst] at h
      exact h
    have HC : Hid (∀ w ρ, RdA ρ w b T s → Calls Tryz.prog 72 #[.pointer (some ⟨b, 0, none⟩), .agg #[.int .i64 kd, .int .i64 pl, .string wd]] w (OutR ρ b T w R)) := fun w ρ h => by
      subst hpl
      have hc := nont_is T HT.out b ⟨kd, plN, wd, nx⟩ w ρ s h HF.out HWD.out
      rw [← HR.out]
      unfold statM
      dsimp only
      rw [if_neg (by omega), if_neg (by omega), if_neg (by omega)]
      exact hc
    clear hst hpl
    go_enter Tryz.func50, Tryz.ntmps50
    go_upto_region 1 with fail
    obtain ⟨g3, hg3⟩ : ∃ g, w.heap.size = g := ⟨_, rfl⟩
    generalize w.alloc (.cells #[.int .i64 kd, .int .i64 pl, .string wd] 104) = W1 at HA1 HW1 HT1 ⊢
    rw [hg3] at HT1 ⊢
    clear hg3
    obtain ⟨⟨t0, t1, t2⟩, -⟩ := HT1.out.facts
    go_upto_region 2 with (go_at_call 71; go_must (refine (HSO.out _).mono ?_; rintro e w2 ⟨rfl, hk2⟩; have HA2 := hide1 ((HA1.out.kept hk2).kept ((Kept.refl w2).alloc #[.string ⟨#[]⟩, .nilFunc] 133)); have HW2 := hide1 ((HW1.out.kept hk2).kept ((Kept.refl w2).alloc #[.string ⟨#[]⟩, .nilFunc] 133)); have HT2 := hide1 ((HT1.out.keep hk2).keep ((Kept.refl w2).alloc #[.string ⟨#[]⟩, .nilFunc] 133)); have HF2 : Hid (FnB (w2.alloc (.cells #[.string ⟨#[]⟩, .nilFunc] 133)) w2.heap.size _ _) := heap_alloc_new w2 _; clear hk2))
    obtain ⟨g4, hg4⟩ : ∃ g, w2.heap.size = g := ⟨_, rfl⟩
    generalize w2.alloc (.cells #[.string ⟨#[]⟩, .nilFunc] 133) = W2 at HA2 HW2 HT2 HF2 ⊢
    rw [hg4] at HF2 ⊢
    clear hg4 t0 t1 t2
    obtain ⟨⟨t0, t1, t2⟩, -⟩ := HT2.out.facts
    obtain ⟨⟨f0, f1⟩, -⟩ := HF2.out.facts
    go_wp2_with fail
    go_at_call 72
    refine (HC.out _ _ HA2.out).mono ?_
    intro e w8 h8
    have h9 := OutR.after HW2.out h8
    rcases R with f | s8
    · obtain ⟨rfl, -⟩ := id h9
      unfold thrown
      go_wp2_with fail
      exact ⟨rfl, h9⟩
    · obtain ⟨rfl, -⟩ := id h9
      go_wp2_with fail
      go_end0
      exact h9

end Gs
end Ex
end Go.Proofs.YtbnchnlogikecaaGreatDoor
