import Derived.Test.YtbnchnlogikecaaGreatDoorPGt9
import Derived.Test.YtbnchnlogikecaaGreatDoorPGt7
import Derived.Deep.DeepMust
import Derived.BigQuiet
import Derived.Test.YtbnchnlogikecaaGreatDoorPGt4
namespace Go.Proofs.YtbnchnlogikecaaGreatDoor
open Go.RowKit
attribute [local go_sem] Oper.semAt_some
set_option linter.unusedVariables false
set_option linter.unusedSimpArgs false
set_option maxRecDepth 100000
set_option maxHeartbeats 4000000
namespace Ex
namespace Gs
open Sh
theorem stOf_cases (wd : ByteArray) : stOf wd = 0 ∨ stOf wd = 1 ∨ stOf wd = 2 ∨ stOf wd = 3 := by
  unfold stOf
  by_cases h0 : stW 0 = wd
  · rw [if_pos h0]; exact .inl rfl
  · rw [if_neg h0]
    by_cases h1 : stW 1 = wd
    · rw [if_pos h1]; exact .inr (.inl rfl)
    · rw [if_neg h1]
      by_cases h2 : stW 2 = wd
      · rw [if_pos h2]; exact .inr (.inr (.inl rfl))
      · rw [if_neg h2]; exact .inr (.inr (.inr rfl))
theorem word1_is (T : ByteArray) (hT : T.size ≤ 100000) (b : Nat) (kd pl : Int) (wd : ByteArray) (w : World) (ρ : Nat → Nat) (s : RSt) (h : RdA ρ w b T s) (hf : Wf T s) :
    Calls Tryz.prog 102 #[.pointer (some ⟨b, 0, none⟩), .agg #[.int .i64 kd, .int .i64 pl, .string wd]] w (OutR ρ b T w (ruleM T pl false s)) := by
  obtain ⟨R, hR⟩ : ∃ R, ruleM T pl false s = R := ⟨_, rfl⟩
  rw [hR]
  have HC : Hid (∀ w ρ, RdA ρ w b T s → Calls Tryz.prog 103 #[.pointer (some ⟨b, 0, none⟩), .agg #[.int .i64 kd, .int .i64 pl, .string wd], .bool false] w (OutR ρ b T w R)) := fun w ρ h => by
    rw [← hR]
    exact rule_is T hT b kd pl wd false w ρ s h hf.k (by have := hf.gn; have := hf.lex; have := hf.nam; omega) hf.lex
  have HA1 := hide1 (h.kept ((Kept.refl w).alloc #[.int .i64 kd, .int .i64 pl, .string wd] 104))
  have HW1 := hide1 ((Went.refl ρ b w).kept ((Kept.refl w).alloc #[.int .i64 kd, .int .i64 pl, .string wd] 104))
  have HT1 := hide1 (fact3 w kd pl wd)
  clear hR h hf hT
  go_enter Tryz.func102, Tryz.ntmps102
  go_upto_region 1 with fail
  obtain ⟨g3, hg3⟩ : ∃ g, w.heap.size = g := ⟨_, rfl⟩
  generalize w.alloc (.cells #[.int .i64 kd, .int .i64 pl, .string wd] 104) = W1 at HA1 HW1 HT1 ⊢
  rw [hg3] at HT1 ⊢
  clear hg3
  obtain ⟨⟨t0, t1, t2⟩, -⟩ := HT1.out.facts
  go_wp2_with fail
  go_at_call 103
  refine (HC.out _ _ HA1.out).mono ?_
  intro e w8 h8
  have h9 := OutR.after HW1.out h8
  rcases R with f | s8
  · obtain ⟨rfl, -⟩ := id h9
    unfold thrown
    go_wp2_with fail
    exact ⟨rfl, h9⟩
  · obtain ⟨rfl, -⟩ := id h9
    go_wp2_with fail
    go_end0
    exact h9
theorem word2_is (T : ByteArray) (hT : T.size ≤ 100000) (b : Nat) (kd pl : Int) (wd : ByteArray) (w : World) (ρ : Nat → Nat) (s : RSt) (h : RdA ρ w b T s) (hf : Wf T s) :
    Calls Tryz.prog 104 #[.pointer (some ⟨b, 0, none⟩), .agg #[.int .i64 kd, .int .i64 pl, .string wd]] w (OutR ρ b T w (ruleM T pl true s)) := by
  obtain ⟨R, hR⟩ : ∃ R, ruleM T pl true s = R := ⟨_, rfl⟩
  rw [hR]
  have HC : Hid (∀ w ρ, RdA ρ w b T s → Calls Tryz.prog 103 #[.pointer (some ⟨b, 0, none⟩), .agg #[.int .i64 kd, .int .i64 pl, .string wd], .bool true] w (OutR ρ b T w R)) := fun w ρ h => by
    rw [← hR]
    exact rule_is T hT b kd pl wd true w ρ s h hf.k (by have := hf.gn; have := hf.lex; have := hf.nam; omega) hf.lex
  have HA1 := hide1 (h.kept ((Kept.refl w).alloc #[.int .i64 kd, .int .i64 pl, .string wd] 104))
  have HW1 := hide1 ((Went.refl ρ b w).kept ((Kept.refl w).alloc #[.int .i64 kd, .int .i64 pl, .string wd] 104))
  have HT1 := hide1 (fact3 w kd pl wd)
  clear hR h hf hT
  go_enter Tryz.func104, Tryz.ntmps104
  go_upto_region 1 with fail
  obtain ⟨g3, hg3⟩ : ∃ g, w.heap.size = g := ⟨_, rfl⟩
  generalize w.alloc (.cells #[.int .i64 kd, .int .i64 pl, .string wd] 104) = W1 at HA1 HW1 HT1 ⊢
  rw [hg3] at HT1 ⊢
  clear hg3
  obtain ⟨⟨t0, t1, t2⟩, -⟩ := HT1.out.facts
  go_wp2_with fail
  go_at_call 103
  refine (HC.out _ _ HA1.out).mono ?_
  intro e w8 h8
  have h9 := OutR.after HW1.out h8
  rcases R with f | s8
  · obtain ⟨rfl, -⟩ := id h9
    unfold thrown
    go_wp2_with fail
    exact ⟨rfl, h9⟩
  · obtain ⟨rfl, -⟩ := id h9
    go_wp2_with fail
    go_end0
    exact h9
theorem word3_is (T : ByteArray) (hT : T.size ≤ 100000) (b : Nat) (kd pl : Int) (wd : ByteArray) (w : World) (ρ : Nat → Nat) (s : RSt) (h : RdA ρ w b T s) (hf : Wf T s) :
    Calls Tryz.prog 105 #[.pointer (some ⟨b, 0, none⟩), .agg #[.int .i64 kd, .int .i64 pl, .string wd]] w (OutR ρ b T w (startM T pl s)) := by
  obtain ⟨R, hR⟩ : ∃ R, startM T pl s = R := ⟨_, rfl⟩
  rw [hR]
  have HC : Hid (∀ w ρ, RdA ρ w b T s → Calls Tryz.prog 106 #[.pointer (some ⟨b, 0, none⟩), .agg #[.int .i64 kd, .int .i64 pl, .string wd]] w (OutR ρ b T w R)) := fun w ρ h => by
    rw [← hR]
    exact start_is T hT b kd pl wd w ρ s h hf.k (by have := hf.use; have := hf.k; omega)
  have HA1 := hide1 (h.kept ((Kept.refl w).alloc #[.int .i64 kd, .int .i64 pl, .string wd] 104))
  have HW1 := hide1 ((Went.refl ρ b w).kept ((Kept.refl w).alloc #[.int .i64 kd, .int .i64 pl, .string wd] 104))
  have HT1 := hide1 (fact3 w kd pl wd)
  clear hR h hf hT
  go_enter Tryz.func105, Tryz.ntmps105
  go_upto_region 1 with fail
  obtain ⟨g3, hg3⟩ : ∃ g, w.heap.size = g := ⟨_, rfl⟩
  generalize w.alloc (.cells #[.int .i64 kd, .int .i64 pl, .string wd] 104) = W1 at HA1 HW1 HT1 ⊢
  rw [hg3] at HT1 ⊢
  clear hg3
  obtain ⟨⟨t0, t1, t2⟩, -⟩ := HT1.out.facts
  go_wp2_with fail
  go_at_call 106
  refine (HC.out _ _ HA1.out).mono ?_
  intro e w8 h8
  have h9 := OutR.after HW1.out h8
  rcases R with f | s8
  · obtain ⟨rfl, -⟩ := id h9
    unfold thrown
    go_wp2_with fail
    exact ⟨rfl, h9⟩
  · obtain ⟨rfl, -⟩ := id h9
    go_wp2_with fail
    go_end0
    exact h9
theorem stat_is (T : ByteArray) (hT : T.size ≤ 100000) (b : Nat) (N : Tok) (w : World) (ρ : Nat → Nat) (s : RSt) (h : RdA ρ w b T s) (hf : Wf T s) (hwd : N.wd.size ≤ 100000) :
    Calls Tryz.prog 50 #[.pointer (some ⟨b, 0, none⟩), .agg #[.int .i64 N.kd, .int .i64 (N.pl : Int), .string N.wd]] w (OutR ρ b T w (statM T N s)) := by
  obtain ⟨kd, plN, wd, nx⟩ := N
  obtain ⟨R, hR⟩ : ∃ R, statM T ⟨kd, plN, wd, nx⟩ s = R := ⟨_, rfl⟩
  rw [hR]
  dsimp only at hwd ⊢
  have HR := hide1 hR
  have HT := hide1 hT
  have HF := hide1 hf
  have HWD := hide1 hwd
  obtain ⟨pl, hpl⟩ : ∃ p : Int, (plN : Int) = p := ⟨_, rfl⟩
  rw [hpl]
  have HA1 := hide1 (h.kept ((Kept.refl w).alloc #[.int .i64 kd, .int .i64 pl, .string wd] 104))
  have HW1 := hide1 ((Went.refl ρ b w).kept ((Kept.refl w).alloc #[.int .i64 kd, .int .i64 pl, .string wd] 104))
  have HT1 := hide1 (fact3 w kd pl wd)
  clear hR h hf hT hwd
  have HPL := hide1 hpl
  rcases stOf_cases wd with hst | hst | hst | hst
  · have HSO : Hid (∀ w, Calls Tryz.prog 71 #[.string wd] w fun e w' => e = .returned (.tuple #[.agg #[.string (stW 0), .func (.func 102) #[] #[]], .bool true]) ∧ Kept w w') := fun w => by
      have h := statementOf_is wd w
      unfold stV at h
      rw [hst] at h
      exact h
    have HC : Hid (∀ w ρ, RdA ρ w b T s → Calls Tryz.prog 102 #[.pointer (some ⟨b, 0, none⟩), .agg #[.int .i64 kd, .int .i64 pl, .string wd]] w (OutR ρ b T w R)) := fun w ρ h => by
      subst hpl
      have hc := word1_is T HT.out b kd (plN : Int) wd w ρ s h HF.out
      rw [← HR.out]
      unfold statM
      dsimp only
      rw [if_pos hst]
      exact hc
    clear hst hpl
    go_enter Tryz.func50, Tryz.ntmps50
    go_upto_region 1 with fail
    obtain ⟨g3, hg3⟩ : ∃ g, w.heap.size = g := ⟨_, rfl⟩
    generalize w.alloc (.cells #[.int .i64 kd, .int .i64 pl, .string wd] 104) = W1 at HA1 HW1 HT1 ⊢
    rw [hg3] at HT1 ⊢
    clear hg3
    obtain ⟨⟨t0, t1, t2⟩, -⟩ := HT1.out.facts
    go_upto_region 2 with (go_at_call 71; go_must (refine (HSO.out _).mono ?_; rintro e w2 ⟨rfl, hk2⟩; have HA2 := hide1 ((HA1.out.kept hk2).kept ((Kept.refl w2).alloc #[.string (stW 0), .func (.func 102) #[] #[]] 133)); have HW2 := hide1 ((HW1.out.kept hk2).kept ((Kept.refl w2).alloc #[.string (stW 0), .func (.func 102) #[] #[]] 133)); have HT2 := hide1 ((HT1.out.keep hk2).keep ((Kept.refl w2).alloc #[.string (stW 0), .func (.func 102) #[] #[]] 133)); have HF2 : Hid (FnB (w2.alloc (.cells #[.string (stW 0), .func (.func 102) #[] #[]] 133)) w2.heap.size _ _) := heap_alloc_new w2 _; clear hk2))
    obtain ⟨g4, hg4⟩ : ∃ g, w2.heap.size = g := ⟨_, rfl⟩
    generalize w2.alloc (.cells #[.string (stW 0), .func (.func 102) #[] #[]] 133) = W2 at HA2 HW2 HT2 HF2 ⊢
    rw [hg4] at HF2 ⊢
    clear hg4 t0 t1 t2
    obtain ⟨⟨t0, t1, t2⟩, -⟩ := HT2.out.facts
    obtain ⟨⟨f0, f1⟩, -⟩ := HF2.out.facts
    go_wp2_with fail
    go_at_call 102
    refine (HC.out _ _ HA2.out).mono ?_
    intro e w8 h8
    have h9 := OutR.after HW2.out h8
    rcases R with f | s8
    · obtain ⟨rfl, -⟩ := id h9
      unfold thrown
      go_wp2_with fail
      exact ⟨rfl, h9⟩
    · obtain ⟨rfl, -⟩ := id h9
      go_wp2_with fail
      go_end0
      exact h9
  · have HSO : Hid (∀ w, Calls Tryz.prog 71 #[.string wd] w fun e w' => e = .returned (.tuple #[.agg #[.string (stW 1), .func (.func 104) #[] #[]], .bool true]) ∧ Kept w w') := fun w => by
      have h := statementOf_is wd w
      unfold stV at h
      rw [hst] at h
      exact h
    have HC : Hid (∀ w ρ, RdA ρ w b T s → Calls Tryz.prog 104 #[.pointer (some ⟨b, 0, none⟩), .agg #[.int .i64 kd, .int .i64 pl, .string wd]] w (OutR ρ b T w R)) := fun w ρ h => by
      subst hpl
      have hc := word2_is T HT.out b kd (plN : Int) wd w ρ s h HF.out
      rw [← HR.out]
      unfold statM
      dsimp only
      rw [if_neg (by omega), if_pos hst]
      exact hc
    clear hst hpl
    go_enter Tryz.func50, Tryz.ntmps50
    go_upto_region 1 with fail
    obtain ⟨g3, hg3⟩ : ∃ g, w.heap.size = g := ⟨_, rfl⟩
    generalize w.alloc (.cells #[.int .i64 kd, .int .i64 pl, .string wd] 104) = W1 at HA1 HW1 HT1 ⊢
    rw [hg3] at HT1 ⊢
    clear hg3
    obtain ⟨⟨t0, t1, t2⟩, -⟩ := HT1.out.facts
    go_upto_region 2 with (go_at_call 71; go_must (refine (HSO.out _).mono ?_; rintro e w2 ⟨rfl, hk2⟩; have HA2 := hide1 ((HA1.out.kept hk2).kept ((Kept.refl w2).alloc #[.string (stW 1), .func (.func 104) #[] #[]] 133)); have HW2 := hide1 ((HW1.out.kept hk2).kept ((Kept.refl w2).alloc #[.string (stW 1), .func (.func 104) #[] #[]] 133)); have HT2 := hide1 ((HT1.out.keep hk2).keep ((Kept.refl w2).alloc #[.string (stW 1), .func (.func 104) #[] #[]] 133)); have HF2 : Hid (FnB (w2.alloc (.cells #[.string (stW 1), .func (.func 104) #[] #[]] 133)) w2.heap.size _ _) := heap_alloc_new w2 _; clear hk2))
    obtain ⟨g4, hg4⟩ : ∃ g, w2.heap.size = g := ⟨_, rfl⟩
    generalize w2.alloc (.cells #[.string (stW 1), .func (.func 104) #[] #[]] 133) = W2 at HA2 HW2 HT2 HF2 ⊢
    rw [hg4] at HF2 ⊢
    clear hg4 t0 t1 t2
    obtain ⟨⟨t0, t1, t2⟩, -⟩ := HT2.out.facts
    obtain ⟨⟨f0, f1⟩, -⟩ := HF2.out.facts
    go_wp2_with fail
    go_at_call 104
    refine (HC.out _ _ HA2.out).mono ?_
    intro e w8 h8
    have h9 := OutR.after HW2.out h8
    rcases R with f | s8
    · obtain ⟨rfl, -⟩ := id h9
      unfold thrown
      go_wp2_with fail
      exact ⟨rfl, h9⟩
    · obtain ⟨rfl, -⟩ := id h9
      go_wp2_with fail
      go_end0
      exact h9
  · have HSO : Hid (∀ w, Calls Tryz.prog 71 #[.string wd] w fun e w' => e = .returned (.tuple #[.agg #[.string (stW 2), .func (.func 105) #[] #[]], .bool true]) ∧ Kept w w') := fun w => by
      have h := statementOf_is wd w
      unfold stV at h
      rw [hst] at h
      exact h
    have HC : Hid (∀ w ρ, RdA ρ w b T s → Calls Tryz.prog 105 #[.pointer (some ⟨b, 0, none⟩), .agg #[.int .i64 kd, .int .i64 pl, .string wd]] w (OutR ρ b T w R)) := fun w ρ h => by
      subst hpl
      have hc := word3_is T HT.out b kd (plN : Int) wd w ρ s h HF.out
      rw [← HR.out]
      unfold statM
      dsimp only
      rw [if_neg (by omega), if_neg (by omega), if_pos hst]
      exact hc
    clear hst hpl
    go_enter Tryz.func50, Tryz.ntmps50
    go_upto_region 1 with fail
    obtain ⟨g3, hg3⟩ : ∃ g, w.heap.size = g := ⟨_, rfl⟩
    generalize w.alloc (.cells #[.int .i64 kd, .int .i64 pl, .string wd] 104) = W1 at HA1 HW1 HT1 ⊢
    rw [hg3] at HT1 ⊢
    clear hg3
    obtain ⟨⟨t0, t1, t2⟩, -⟩ := HT1.out.facts
    go_upto_region 2 with (go_at_call 71; go_must (refine (HSO.out _).mono ?_; rintro e w2 ⟨rfl, hk2⟩; have HA2 := hide1 ((HA1.out.kept hk2).kept ((Kept.refl w2).alloc #[.string (stW 2), .func (.func 105) #[] #[]] 133)); have HW2 := hide1 ((HW1.out.kept hk2).kept ((Kept.refl w2).alloc #[.string (stW 2), .func (.func 105) #[] #[]] 133)); have HT2 := hide1 ((HT1.out.keep hk2).keep ((Kept.refl w2).alloc #[.string (stW 2), .func (.func 105) #[] #[]] 133)); have HF2 : Hid (FnB (w2.alloc (.cells #[.string (stW 2), .func (.func 105) #[] #[]] 133)) w2.heap.size _ _) := heap_alloc_new w2 _; clear hk2))
    obtain ⟨g4, hg4⟩ : ∃ g, w2.heap.size = g := ⟨_, rfl⟩
    generalize w2.alloc (.cells #[.string (stW 2), .func (.func 105) #[] #[]] 133) = W2 at HA2 HW2 HT2 HF2 ⊢
    rw [hg4] at HF2 ⊢
    clear hg4 t0 t1 t2
    obtain ⟨⟨t0, t1, t2⟩, -⟩ := HT2.out.facts
    obtain ⟨⟨f0, f1⟩, -⟩ := HF2.out.facts
    go_wp2_with fail
    go_at_call 105
    refine (HC.out _ _ HA2.out).mono ?_
    intro e w8 h8
    have h9 := OutR.after HW2.out h8
    rcases R with f | s8
    · obtain ⟨rfl, -⟩ := id h9
      unfold thrown
      go_wp2_with fail
      exact ⟨rfl, h9⟩
    · obtain ⟨rfl, -⟩ := id h9
      go_wp2_with fail
      go_end0
      exact h9
  · have HSO : Hid (∀ w, Calls Tryz.prog 71 #[.string wd] w fun e w' => e = .returned (.tuple #[.agg #[.string ⟨#[]⟩, .nilFunc], .bool false]) ∧ Kept w w') := fun w => by
      have h := statementOf_is wd w
      unfold stV at h
      rw [hst] at h
      exact h
    have HC : Hid (∀ w ρ, RdA ρ w b T s → Calls Tryz.prog 72 #[.pointer (some ⟨b, 0, none⟩), .agg #[.int .i64 kd, .int .i64 pl, .string wd]] w (OutR ρ b T w R)) := fun w ρ h => by
      subst hpl
      have hc := nont_is T HT.out b ⟨kd, plN, wd, nx⟩ w ρ s h HF.out HWD.out
      rw [← HR.out]
      unfold statM
      dsimp only
      rw [if_neg (by omega), if_neg (by omega), if_neg (by omega)]
      exact hc
    clear hst hpl
    go_enter Tryz.func50, Tryz.ntmps50
    go_upto_region 1 with fail
    obtain ⟨g3, hg3⟩ : ∃ g, w.heap.size = g := ⟨_, rfl⟩
    generalize w.alloc (.cells #[.int .i64 kd, .int .i64 pl, .string wd] 104) = W1 at HA1 HW1 HT1 ⊢
    rw [hg3] at HT1 ⊢
    clear hg3
    obtain ⟨⟨t0, t1, t2⟩, -⟩ := HT1.out.facts
    go_upto_region 2 with (go_at_call 71; go_must (refine (HSO.out _).mono ?_; rintro e w2 ⟨rfl, hk2⟩; have HA2 := hide1 ((HA1.out.kept hk2).kept ((Kept.refl w2).alloc #[.string ⟨#[]⟩, .nilFunc] 133)); have HW2 := hide1 ((HW1.out.kept hk2).kept ((Kept.refl w2).alloc #[.string ⟨#[]⟩, .nilFunc] 133)); have HT2 := hide1 ((HT1.out.keep hk2).keep ((Kept.refl w2).alloc #[.string ⟨#[]⟩, .nilFunc] 133)); have HF2 : Hid (FnB (w2.alloc (.cells #[.string ⟨#[]⟩, .nilFunc] 133)) w2.heap.size _ _) := heap_alloc_new w2 _; clear hk2))
    obtain ⟨g4, hg4⟩ : ∃ g, w2.heap.size = g := ⟨_, rfl⟩
    generalize w2.alloc (.cells #[.string ⟨#[]⟩, .nilFunc] 133) = W2 at HA2 HW2 HT2 HF2 ⊢
    rw [hg4] at HF2 ⊢
    clear hg4 t0 t1 t2
    obtain ⟨⟨t0, t1, t2⟩, -⟩ := HT2.out.facts
    obtain ⟨⟨f0, f1⟩, -⟩ := HF2.out.facts
    go_wp2_with fail
    go_at_call 72
    refine (HC.out _ _ HA2.out).mono ?_
    intro e w8 h8
    have h9 := OutR.after HW2.out h8
    rcases R with f | s8
    · obtain ⟨rfl, -⟩ := id h9
      unfold thrown
      go_wp2_with fail
      exact ⟨rfl, h9⟩
    · obtain ⟨rfl, -⟩ := id h9
      go_wp2_with fail
      go_end0
      exact h9
end Gs
end Ex
end Go.Proofs.YtbnchnlogikecaaGreatDoor
namespace Go.Proofs.YtbnchnlogikecaaGreatDoor
open Go.RowKit Go.Maps
attribute [local go_sem] Oper.semAt_some
set_option linter.unusedVariables false
namespace Ex
namespace Gs
open Sh
theorem lo_set1 {α : Type} {E : ElK α} {w : World} {base g n c k j : Nat} {l : List α} {x y : α} {u : Value} (h : LO E w base (.slice (some ⟨g, 0, none⟩) n c) l) (hx : l[k]? = some x) (hj : j < E.sz) (hy : E.enc y = (E.enc x).set j u) : LO E (w.setCell ⟨g, k * E.sz + j, none⟩ u) base (.slice (some ⟨g, 0, none⟩) n c) (l.set k y) := by
  have hk : k < n := by rw [← lo_lens h]; exact (List.getElem?_eq_some_iff.1 hx).1
  obtain ⟨EE, r1, r2, r3, r4, r5, r6⟩ := lo_toRow h
  have hEk : EE[k]? = some (E.enc x) := by
    have h1 : (EE.take n)[k]? = some (E.enc x) := by rw [r3, List.getElem?_map, hx]; rfl
    rw [List.getElem?_take, if_pos hk] at h1
    exact h1
  have r1' := r1
  obtain ⟨cur, c1, c2, c3⟩ := r1
  have hcell : ∀ t v, (E.enc x)[t]? = some v → cur[k * E.sz + t]? = some v := fun t v hv => by
    have h1 := r1'.cell E.pos hEk hv
    unfold World.cell? at h1
    simp only [c1] at h1
    exact h1
  have hjc : k * E.sz + j < cur.size := by
    have h1 := hcell j ((E.enc x)[j]'(by rw [E.len]; exact hj)) (List.getElem?_eq_getElem _)
    exact (Array.getElem?_eq_some_iff.1 h1).1
  have d1 : (w.setCell ⟨g, k * E.sz + j, none⟩ u).heap[g]? = some (.cells (cur.setIfInBounds (k * E.sz + j) u) E.T (0, 0)) := heap_setb c1
  have hp := RowE.put E.pos r1' (x := E.enc y) (E.len y) c1 d1 (by omega : k < EE.length) (fun i => by
    by_cases hi : i = k * E.sz + j
    · subst hi
      rw [if_pos ⟨by omega, by omega⟩, Array.getElem?_setIfInBounds_self_of_lt hjc, hy, Nat.add_sub_cancel_left, List.getElem?_set_self (by rw [E.len]; exact hj)]
    · rw [Array.getElem?_setIfInBounds_ne (fun e => hi e.symm)]
      by_cases hr : k * E.sz ≤ i ∧ i < k * E.sz + E.sz
      · rw [if_pos hr, hy, List.getElem?_set_ne (by omega)]
        have h1 := hcell (i - k * E.sz) ((E.enc x)[i - k * E.sz]'(by rw [E.len]; omega)) (List.getElem?_eq_getElem _)
        rw [show k * E.sz + (i - k * E.sz) = i by omega] at h1
        rw [h1, List.getElem?_eq_getElem]
      · rw [if_neg hr])
  have hl2 : (EE.set k (E.enc y)).length = c := by rw [List.length_set, r2]
  have := lo_rowE (l := l.set k y) hp r5 (n := n) (by rw [hl2]; exact r4) (by rw [hl2]; exact r6) (by
    rw [List.take_set, r3, List.map_set])
  rw [hl2] at this
  exact this
theorem set_get {α : Type} {l : List α} {j i : Nat} {q x : α} (h : (l.set j q)[i]? = some x) : (i = j ∧ x = q) ∨ (i ≠ j ∧ l[i]? = some x) := by
  by_cases e : i = j
  · subst e
    have h1 := (List.getElem?_eq_some_iff.1 h).1
    rw [List.length_set] at h1
    rw [List.getElem?_set_self h1] at h
    exact .inl ⟨rfl, (Option.some.inj h).symm⟩
  · rw [List.getElem?_set_ne (fun e' => e e'.symm)] at h
    exact .inr ⟨e, h⟩
theorem modify_get {α : Type} {l : List α} {j i : Nat} {f : α → α} {x : α} (h : (l.modify j f)[i]? = some x) : (i = j ∧ ∃ y, l[j]? = some y ∧ x = f y) ∨ (i ≠ j ∧ l[i]? = some x) := by
  rw [List.getElem?_modify] at h
  cases hl : l[i]? with
  | none => rw [hl] at h; cases h
  | some y =>
    rw [hl] at h
    have h2 : (if j = i then f y else y) = x := Option.some.inj h
    by_cases e : i = j
    · subst e
      rw [if_pos rfl] at h2
      exact .inl ⟨rfl, y, hl, h2.symm⟩
    · rw [if_neg (fun e' => e e'.symm)] at h2
      exact .inr ⟨e, by rw [h2]⟩
theorem PrdR.app {ρ : Nat → Nat} {w w' : World} {ps : List PrdM} {l : List Int} {sds : List (List (Int × Int))} (h : PrdR ρ w ps l sds) {j : Nat} {q : Int} {sv : SlV} {ys : List (Int × Int)} {y : Int × Int} {g n cap : Nat} (hx : ps[j]? = some (q, sv)) (hy : sds[j]? = some ys)
    (hn : LO symE w' 0 (.slice (some ⟨g, 0, none⟩) n cap) (ys ++ [y])) (hk : ∀ d, d < w.heap.size → ρ d = 7 → (val sv).ownBlock ≠ some d → w'.heap[d]? = w.heap[d]?) (hor : (val sv).ownBlock = some g ∨ g = w.heap.size) :
    PrdR (updR ρ g 7) w' (ps.set j (q, (some ⟨g, 0, none⟩, n, cap))) l (sds.modify j (· ++ [y])) where
  len := by rw [List.length_set]; exact h.len
  lens := by rw [List.length_modify]; exact h.lens
  left := fun i x hi => by
    rcases set_get hi with ⟨rfl, rfl⟩ | ⟨_, hi⟩
    · exact h.left i (q, sv) hx
    · exact h.left i x hi
  side := fun i x zs hi hz => by
    rcases set_get hi with ⟨rfl, rfl⟩ | ⟨hne, hi⟩
    · rcases modify_get hz with ⟨_, y', hy', rfl⟩ | ⟨hne, _⟩
      · rw [hy] at hy'
        cases hy'
        exact hn
      · exact absurd rfl hne
    · rcases modify_get hz with ⟨e, _⟩ | ⟨_, hz⟩
      · exact absurd e hne
      · exact (h.side i x zs hi hz).same (fun d hd => hk d ((h.side i x zs hi hz).lt' d hd).2 (h.own i x hi d hd) (fun e => hne (h.lone i j x _ d hi hx hd e)))
  own := fun i x hi => by
    rcases set_get hi with ⟨rfl, rfl⟩ | ⟨_, hi⟩
    · exact own_new
    · intro d hd
      unfold updR
      by_cases e : d = g
      · rw [if_pos e]
      · rw [if_neg e]; exact h.own i x hi d hd
  lone := fun i k x z d hi hz h1 h2 => by
    have hlt : ∀ (t : Nat) (v : PrdM), ps[t]? = some v → (val v.2).ownBlock = some g → (val sv).ownBlock = some g := fun t v hv hg => by
      rcases hor with e | e
      · exact e
      · have ht := (List.getElem?_eq_some_iff.1 hv).1
        have := ((h.side t v _ hv (List.getElem?_eq_getElem (by rw [h.lens, ← h.len]; exact ht))).lt' g hg).2
        omega
    rcases set_get hi with ⟨rfl, rfl⟩ | ⟨hne, hi2⟩
    · rcases set_get hz with ⟨rfl, rfl⟩ | ⟨hne, hz2⟩
      · rfl
      · have e : d = g := by simp only [val, Value.ownBlock, Option.some.injEq] at h1; exact h1.symm
        rw [e] at h2
        exact h.lone i k _ z g hx hz2 (hlt k z hz2 h2) h2
    · rcases set_get hz with ⟨rfl, rfl⟩ | ⟨hne2, hz2⟩
      · have e : d = g := by simp only [val, Value.ownBlock, Option.some.injEq] at h2; exact h2.symm
        rw [e] at h1
        exact h.lone i k x _ g hi2 hx h1 (hlt i x hi2 h1)
      · exact h.lone i k x z d hi2 hz2 h1 h2
theorem encPrd_set (q : Int) (sv sv' : SlV) : encPrd (q, sv') = (encPrd (q, sv)).set 1 (val sv') := rfl
theorem RdB.addR {ρ : Nat → Nat} {w w' : World} {b : Nat} {T : ByteArray} {s : RSt} {xL xN xU : SlV} {m gp pn pc : Nat} {its : List LexM} {ps : List PrdM} (h : RdB ρ w b T s xL xN (some ⟨gp, 0, none⟩, pn, pc) xU m its ps) {j : Nat} {q : Int} {sv : SlV} {ys : List (Int × Int)} {y : Int × Int} {g n cap : Nat} (hx : ps[j]? = some (q, sv)) (hy : s.sds[j]? = some ys)
    (hn : LO symE w' 0 (.slice (some ⟨g, 0, none⟩) n cap) (ys ++ [y])) (hg : w.grownBy w' (val sv).ownBlock) (hor : (val sv).ownBlock = some g ∨ g = w.heap.size) (hgl : g < w'.heap.size) :
    RdB (updR ρ g 7) (w'.setCell ⟨gp, j * 2 + 1, none⟩ (.slice (some ⟨g, 0, none⟩) n cap)) b T { s with sds := s.sds.modify j (· ++ [y]) } xL xN (some ⟨gp, 0, none⟩, pn, pc) xU m its (ps.set j (q, (some ⟨g, 0, none⟩, n, cap))) ∧
    Went ρ b w (updR ρ g 7) (w'.setCell ⟨gp, j * 2 + 1, none⟩ (.slice (some ⟨g, 0, none⟩) n cap)) := by
  have hgp : ρ gp = 4 := h.o4 gp rfl
  have hgpl : gp < w.heap.size := (h.prd.lt' gp rfl).2
  have hsv : ∀ d, (val sv).ownBlock = some d → ρ d = 7 := fun d hd => h.prdR.own j _ hx d hd
  have hggp : g ≠ gp := fun e => by
    rcases hor with e' | e'
    · have := hsv g e'; rw [e, hgp] at this; cases this
    · omega
  have hsz : (w'.setCell ⟨gp, j * 2 + 1, none⟩ (.slice (some ⟨g, 0, none⟩) n cap)).heap.size = w'.heap.size := by simp [World.setCell]
  have hws : w.heap.size ≤ w'.heap.size := hg.size
  have hhp : ∀ d, d ≠ gp → (w'.setCell ⟨gp, j * 2 + 1, none⟩ (.slice (some ⟨g, 0, none⟩) n cap)).heap[d]? = w'.heap[d]? := fun d hd => Below.heap_setCell _ _ _ _ (fun e => hd e)
  have hh : ∀ d, d < w.heap.size → ρ d ≠ 4 → ρ d ≠ 7 → (w'.setCell ⟨gp, j * 2 + 1, none⟩ (.slice (some ⟨g, 0, none⟩) n cap)).heap[d]? = w.heap[d]? := fun d hd h4 h7 => by
    rw [hhp d (fun e => h4 (by rw [e]; exact hgp))]
    exact hg.block d hd (fun e => h7 (hsv d e.symm))
  have hr : ∀ d, d < w.heap.size → updR ρ g 7 d = ρ d := fun d hd => by
    unfold updR
    by_cases e : d = g
    · subst e
      rw [if_pos rfl]
      rcases hor with e | e
      · exact (hsv d e).symm
      · omega
    · rw [if_neg e]
  have hprd : LO prdE w' 0 (.slice (some ⟨gp, 0, none⟩) pn pc) ps := LO.same (v := .slice (some ⟨gp, 0, none⟩) pn pc) h.prd (fun d hd => by
    have e : gp = d := by simpa [Value.ownBlock] using hd
    subst e
    exact hg.block gp hgpl (fun e => by have := hsv gp e.symm; rw [hgp] at this; cases this))
  refine ⟨{ box := ?_, lex := ?_, lexR := ?_, nam := ?_, prd := ?_, prdR := ?_, use := ?_, giv := ?_, o1 := ?_, o3 := ?_, o4 := ?_, o5 := ?_, o6 := ?_, o0 := ?_, lo := ?_ }, ⟨?_, ?_, ?_, by rw [hsz]; exact hws, ?_⟩, hr⟩
  · unfold BoxR
    rw [hh b h.ltb (by rw [h.o0]; decide) (by rw [h.o0]; decide)]
    exact h.box
  · exact lo_heap h.lex h.o1 (by decide) (fun d hd e => hh d hd (by omega) (by omega))
  · exact h.lexR.mono (fun d hd e => hh d hd (by omega) (by omega)) (fun d hd e => (hr d hd).trans e) (by rw [hsz]; exact hws)
  · exact lo_heap h.nam h.o3 (by decide) (fun d hd e => hh d hd (by omega) (by omega))
  · exact lo_set1 (E := prdE) hprd hx (by decide) (encPrd_set q sv _)
  · exact h.prdR.app hx hy (hn.same (fun d hd => hhp d (fun e => hggp (by simp only [Value.ownBlock, Option.some.injEq] at hd; rw [hd]; exact e)))) (fun d hd h7 hne => by
      rw [hhp d (fun e => by rw [e, hgp] at h7; cases h7)]
      exact hg.block d hd (fun e => hne e.symm)) hor
  · exact lo_heap h.use h.o5 (by decide) (fun d hd e => hh d hd (by omega) (by omega))
  · exact h.giv.same (hh m h.giv.lt (by rw [h.o6]; decide) (by rw [h.o6]; decide))
  · exact own_back h.lex h.o1 hr
  · exact own_back h.nam h.o3 hr
  · exact own_back (v := .slice (some ⟨gp, 0, none⟩) pn pc) h.prd h.o4 hr
  · exact own_back h.use h.o5 hr
  · exact (hr m h.giv.lt).trans h.o6
  · exact (hr b h.ltb).trans h.o0
  · intro d hd
    rw [hsz]
    unfold updR at hd
    by_cases e : d = g
    · rw [e]; exact hgl
    · rw [if_neg e] at hd
      have := h.lo d hd
      omega
  · exact hg.os
  · exact hg.tape
  · exact hg.output
  · intro d hd hn
    have h0 : ρ d = 0 := by
      by_cases e : ρ d = 0
      · exact e
      · exact absurd (.inr e) hn
    exact hh d hd (by omega) (by omega)
theorem RdB.setSt {ρ : Nat → Nat} {w : World} {b : Nat} {T : ByteArray} {s : RSt} {xL xN xP xU : SlV} {m : Nat} {its : List LexM} {ps : List PrdM} (h : RdB ρ w b T s xL xN xP xU m its ps) (n : Int) : RdB ρ (w.setCell ⟨b, 4, none⟩ (.int .i64 n)) b T { s with st := n } xL xN xP xU m its ps :=
  h.new 9 (by simp [World.setCell]) (fun _ _ => rfl) (fun d hd hr => by have := h.lo d hr; omega) (fun d hd h0 h6 => Below.heap_setCell _ _ _ _ (fun e => h0 (by have e : d = b := e; rw [e]; exact h.o0))) (by unfold BoxR; rw [heap_setb h.box]; rfl) (.inl ⟨rfl, rfl, rfl, by decide, by decide⟩) (.inl ⟨rfl, rfl, by decide⟩) (.inl ⟨rfl, rfl, rfl, rfl, by decide, by decide⟩) (.inl ⟨rfl, rfl, by decide⟩) (.inl ⟨rfl, rfl, by decide⟩)
def UsB (w : World) (g : Nat) (u : Use) : Prop := w.heap[g]? = some (.cells #[.int .i64 u.1, .int .i64 u.2.1, .string u.2.2.1, .int .i64 u.2.2.2] 137 (0, 0))
theorem UsB.facts {w : World} {g : Nat} {u : Use} (h : UsB w g u) : w.cell? ⟨g, 0, none⟩ = some (.int .i64 u.1) ∧ w.cell? ⟨g, 1, none⟩ = some (.int .i64 u.2.1) ∧ w.cell? ⟨g, 2, none⟩ = some (.string u.2.2.1) ∧ w.cell? ⟨g, 3, none⟩ = some (.int .i64 u.2.2.2) := by
  unfold UsB at h
  refine ⟨?_, ?_, ?_, ?_⟩ <;> simp [World.cell?, h]
theorem UsB.keep {w w' : World} {g : Nat} {u : Use} (h : UsB w g u) (hk : Kept w w') : UsB w' g u := (hk.2.2.2.2 g (Array.getElem?_eq_some_iff.1 h).1).trans h
theorem SyB.set {w : World} {g : Nat} {a b : Int} (h : SyB w g a b) (a' b' : Int) : SyB ((w.setCell ⟨g, 0, none⟩ (.int .i64 a')).setCell ⟨g, 1, none⟩ (.int .i64 b')) g a' b' := by
  unfold SyB at h ⊢
  rw [heap_setb (heap_setb h)]
  rfl
theorem lo_use {w : World} {base : Nat} {a : Option Addr} {L c : Nat} {l : List Use} (h : LO useE w base (.slice a L c) l) {k : Nat} {x : Use} (hx : l[k]? = some x) : ∃ g, a = some ⟨g, 0, none⟩ ∧ w.cell? ⟨g, k * 4, none⟩ = some (.int .i64 x.1) ∧ w.cell? ⟨g, k * 4 + 1, none⟩ = some (.int .i64 x.2.1) ∧ w.cell? ⟨g, k * 4 + 2, none⟩ = some (.string x.2.2.1) ∧ w.cell? ⟨g, k * 4 + 3, none⟩ = some (.int .i64 x.2.2.2) := by
  obtain ⟨g, e⟩ := LO.some h (fun e => by rw [e] at hx; cases hx)
  subst e
  exact ⟨g, rfl, LO.cell (E := useE) h hx (j := 0) rfl, LO.cell (E := useE) h hx (j := 1) rfl, LO.cell (E := useE) h hx (j := 2) rfl, LO.cell (E := useE) h hx (j := 3) rfl⟩
theorem lo_prd {w : World} {base : Nat} {a : Option Addr} {L c : Nat} {l : List PrdM} (h : LO prdE w base (.slice a L c) l) {k : Nat} {x : PrdM} (hx : l[k]? = some x) : ∃ g, a = some ⟨g, 0, none⟩ ∧ w.cell? ⟨g, k * 2, none⟩ = some (.int .i64 x.1) ∧ w.cell? ⟨g, k * 2 + 1, none⟩ = some (val x.2) ∧ w.frozen? ⟨g, k * 2 + 1, none⟩ = false := by
  obtain ⟨g, e⟩ := LO.some h (fun e => by rw [e] at hx; cases hx)
  subst e
  have hk : k < L := by rw [← lo_lens h]; exact (List.getElem?_eq_some_iff.1 hx).1
  exact ⟨g, rfl, LO.cell (E := prdE) h hx (j := 0) rfl, LO.cell (E := prdE) h hx (j := 1) rfl, by obtain ⟨EE, r1, _⟩ := lo_toRow h; exact r1.frozen _⟩
def Emp (s : RSt) : Prop := ∀ ys ∈ s.sds, ys = []
theorem side_emp {T : ByteArray} {pr : Int} : ∀ (f n : Nat) (N : Tok) (s : RSt) {r : Bool × RSt}, Emp s → sideM T pr f n N s = .ok r → Emp r.2
  | 0, n, N, s, r, h, hs => by cases hs; exact h
  | f + 1, n, N, s, r, h, hs => by
    unfold sideM at hs
    split at hs
    · split at hs
      · cases hs
      · obtain ⟨M, h1, hs⟩ := bind_ok hs
        refine side_emp f (n + 1) M _ ?_ hs
        exact h
    · cases hs
      exact h
theorem right_emp {T : ByteArray} {left : Int} {s : RSt} {r : Bool × RSt} (h : Emp s) (hs : rightM T left s = .ok r) : Emp r.2 := by
  unfold rightM at hs
  obtain ⟨N, h1, hs⟩ := bind_ok hs
  split at hs
  · cases hs
  · refine side_emp _ _ _ _ (fun ys hy => ?_) hs
    rcases List.mem_append.1 hy with hy | hy
    · exact h ys hy
    · simpa using hy
theorem sides_emp {T : ByteArray} {left : Int} : ∀ (f : Nat) (s : RSt) {s' : RSt}, Emp s → sidesM T left f s = .ok s' → Emp s'
  | 0, s, s', h, hs => by cases hs; exact h
  | f + 1, s, s', h, hs => by
    unfold sidesM at hs
    obtain ⟨r, h1, hs⟩ := bind_ok hs
    have h2 := right_emp h h1
    split at hs
    · exact sides_emp f r.2 h2 hs
    · cases hs; exact h2
theorem stat_emp {T : ByteArray} {N : Tok} {s s' : RSt} (h : Emp s) (hs : statM T N s = .ok s') : Emp s' := by
  have hr : ∀ {pl tr}, ruleM T pl tr s = .ok s' → Emp s' := fun {pl tr} hs => by
    unfold ruleM at hs
    split at hs
    · cases hs
    · obtain ⟨s1, h1, hs⟩ := bind_ok hs
      obtain ⟨s2, h2, hs⟩ := bind_ok hs
      obtain ⟨q, h3, hs⟩ := bind_ok hs
      obtain ⟨_, _, rfl⟩ := give_ok h1
      obtain ⟨_, rfl⟩ := sign_eq h2
      obtain ⟨_, rfl⟩ := sign_eq hs
      exact h
  unfold statM at hs
  split at hs
  · exact hr hs
  · split at hs
    · exact hr hs
    · split at hs
      · unfold startM at hs
        split at hs
        · cases hs
        · split at hs
          · cases hs
          · obtain ⟨_, rfl⟩ := sign_eq hs
            exact h
      · unfold nontM at hs
        obtain ⟨s1, h1, hs⟩ := bind_ok hs
        obtain ⟨_, _, rfl⟩ := give_ok h1
        split at hs
        · cases hs
        · obtain ⟨s2, h2, hs⟩ := bind_ok hs
          obtain ⟨_, rfl⟩ := sign_eq h2
          refine sides_emp _ _ ?_ hs
          exact h
end Gs
end Ex
end Go.Proofs.YtbnchnlogikecaaGreatDoor
namespace Go.Proofs.YtbnchnlogikecaaGreatDoor
open Go.RowKit
set_option linter.unusedVariables false
namespace Ex
namespace Gs
open Sh
def Wd (T : ByteArray) (s : RSt) : Prop := s.k ≤ T.size ∧ ∀ u ∈ s.use, u.2.2.1.size ≤ T.size
theorem Wd.more {T : ByteArray} {s s' : RSt} (h : Wd T s) {u : Use} (hk : s'.k ≤ T.size) (hu : s'.use = s.use ++ [u]) (hw : u.2.2.1.size ≤ T.size) : Wd T s' := ⟨hk, fun v hv => by
  rw [hu] at hv
  rcases List.mem_append.1 hv with hv | hv
  · exact h.2 v hv
  · simp only [List.mem_cons, List.not_mem_nil, or_false] at hv
    subst hv
    exact hw⟩
theorem side_wd {T : ByteArray} {pr : Int} : ∀ (f n : Nat) (N : Tok) (s : RSt) {r : Bool × RSt}, Wd T s → N.wd.size ≤ T.size → sideM T pr f n N s = .ok r → Wd T r.2
  | 0, n, N, s, r, h, _, hs => by cases hs; exact h
  | f + 1, n, N, s, r, h, hN, hs => by
    unfold sideM at hs
    split at hs
    · split at hs
      · cases hs
      · obtain ⟨M, h1, hs⟩ := bind_ok hs
        obtain ⟨rfl, _, _⟩ := part_eq h1
        obtain ⟨a1, _, _, _, a5, _⟩ := next_facts h.1
        refine side_wd f (n + 1) _ _ ?_ a5 hs
        exact h.more (u := (N.kd, (N.pl : Int), N.wd, pr)) a1 rfl hN
    · cases hs
      exact h
theorem right_wd {T : ByteArray} {left : Int} {s : RSt} {r : Bool × RSt} (h : Wd T s) (hs : rightM T left s = .ok r) : Wd T r.2 := by
  unfold rightM at hs
  obtain ⟨N, h1, hs⟩ := bind_ok hs
  obtain ⟨rfl, _, _⟩ := part_eq h1
  obtain ⟨a1, _, _, _, a5, _⟩ := next_facts h.1
  split at hs
  · cases hs
  · refine side_wd _ _ _ _ ?_ a5 hs
    exact ⟨a1, h.2⟩
theorem sides_wd {T : ByteArray} {left : Int} : ∀ (f : Nat) (s : RSt) {s' : RSt}, Wd T s → sidesM T left f s = .ok s' → Wd T s'
  | 0, s, s', h, hs => by cases hs; exact h
  | f + 1, s, s', h, hs => by
    unfold sidesM at hs
    obtain ⟨r, h1, hs⟩ := bind_ok hs
    have h2 := right_wd h h1
    split at hs
    · exact sides_wd f r.2 h2 hs
    · cases hs; exact h2
theorem stat_wd {T : ByteArray} {N : Tok} {s s' : RSt} (h : Wd T s) (hs : statM T N s = .ok s') : Wd T s' := by
  obtain ⟨a1, _, _, _, a5, _⟩ := next_facts h.1
  have hr : ∀ {pl tr}, ruleM T pl tr s = .ok s' → Wd T s' := fun {pl tr} hs => by
    unfold ruleM at hs
    split at hs
    · cases hs
    · obtain ⟨s1, h1, hs⟩ := bind_ok hs
      obtain ⟨s2, h2, hs⟩ := bind_ok hs
      obtain ⟨q, h3, hs⟩ := bind_ok hs
      obtain ⟨_, _, rfl⟩ := give_ok h1
      obtain ⟨_, rfl⟩ := sign_eq h2
      obtain ⟨_, rfl⟩ := sign_eq hs
      have b1 := (next_facts a1).1
      have c1 := (pat_wf b1 h3).2
      exact ⟨(next_facts c1).1, h.2⟩
  unfold statM at hs
  split at hs
  · exact hr hs
  · split at hs
    · exact hr hs
    · split at hs
      · unfold startM at hs
        split at hs
        · cases hs
        · split at hs
          · cases hs
          · obtain ⟨_, rfl⟩ := sign_eq hs
            exact h.more (u := ((nextM T s.k).kd, ((nextM T s.k).pl : Int), (nextM T s.k).wd, -1)) (next_facts a1).1 rfl a5
      · unfold nontM at hs
        obtain ⟨s1, h1, hs⟩ := bind_ok hs
        obtain ⟨_, _, rfl⟩ := give_ok h1
        split at hs
        · cases hs
        · obtain ⟨s2, h2, hs⟩ := bind_ok hs
          obtain ⟨_, rfl⟩ := sign_eq h2
          refine sides_wd _ _ ?_ hs
          exact ⟨a1, h.2⟩
end Gs
end Ex
end Go.Proofs.YtbnchnlogikecaaGreatDoor
