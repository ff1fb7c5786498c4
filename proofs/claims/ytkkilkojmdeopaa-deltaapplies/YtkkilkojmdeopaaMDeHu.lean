import Derived.Test.YtkkilkojmdeopaaMDePl
namespace Go.Proofs.Ytkkilkojmdeopaa
open Go.RowKit
attribute [local go_sem] Oper.semAt_some
namespace Ex
namespace Tr

theorem pl_of {S : Nat → Prop} {P : Nat → Pn} {rk : Nat → Nat} {w w' : World} {base n c : Nat} {a : Option Addr} {ks : List Nat} (h : LO pnE w base (.slice a n c) ks) (hn : ks.length = n) (hF : PFor S P rk w) (hS : ∀ k ∈ ks, S k) (hk : Kept w w') : PlRd w' (.slice a n c) ks (fun k => (P k).id) := by
  refine ⟨a, c, by rw [hn], h.cap, fun i k hi => ?_⟩
  obtain ⟨g, rfl⟩ := h.some (by intro e; rw [e] at hi; simp at hi)
  refine ⟨g, 0, rfl, ?_, ?_⟩
  · have h1 := (h.keep hk).cell (i := i) (j := 0) (x := k) (u := .pointer (some ⟨k, 0, none⟩)) hi rfl
    rw [show i * pnE.sz + 0 = 0 + i from by show i * 1 + 0 = 0 + i; omega] at h1
    exact h1
  · obtain ⟨a, c, h1, _⟩ := (hF.keep hk).at_ k (hS k (List.mem_of_getElem? hi))
    simp [World.cell?, h1]
theorem lvP_in {S : Nat → Prop} {P : Nat → Pn} {rk : Nat → Nat} {w : World} (hF : PFor S P rk w) : ∀ (f b : Nat), S b → ∀ k ∈ lvP P f b, S k
  | 0, _, _, k, hk => by simp [lvP] at hk
  | f + 1, b, hb, k, hk => by
    unfold lvP at hk
    split at hk
    · simp only [List.mem_singleton] at hk; subst hk; exact hb
    · obtain ⟨c, hc1, hc2⟩ := List.mem_flatMap.1 hk
      exact lvP_in hF f c (hF.kid b hb c hc1).1 k hc2
/-- While the hunks are made. -/
def HuI (lI mI : List Int) (R : List Hk) (j fr into : Nat) (done : List Hk) : Prop := (j ≤ lI.length ∧ R = done ++ hkG lI mI (lI.drop j) j fr into) ∨ (lI.length < j ∧ R = done)
set_option linter.unusedSimpArgs false in
set_option maxRecDepth 100000 in
set_option maxHeartbeats 4000000 in
theorem hunksP_is (S : Nat → Prop) (P : Nat → Pn) (rk : Nat → Nat) (a b : Nat) (w : World) (hF : PFor S P rk w) (hlen : ∀ b, S b → (lvP P (rk b + 1) b).length ≤ 4194304 ∧ (P b).kids.length ≤ 4194304) (ha : S a) (hb : S b) :
    Calls Try.prog 18 #[.pointer (some ⟨a, 0, none⟩), .pointer (some ⟨b, 0, none⟩)] w fun e w' => ∃ v, e = .returned v ∧ LO hkE w' w.heap.size v (hkG ((lvP P (rk a + 1) a).map fun k => (P k).id) ((lvP P (rk b + 1) b).map fun k => (P k).id) ((lvP P (rk a + 1) a).map fun k => (P k).id) 0 0 0) ∧ Kept w w' := by
  have HLA := hide1 (leavesP_is S P rk w hF hlen (rk a + 1) a ha (Nat.lt_succ_self _))
  have HLB := hide1 (leavesP_is S P rk w hF hlen (rk b + 1) b hb (Nat.lt_succ_self _))
  have hSA := lvP_in hF (rk a + 1) a ha
  have hSB := lvP_in hF (rk b + 1) b hb
  have hlA := (hlen a ha).1
  have hlB := (hlen b hb).1
  obtain ⟨la, hla⟩ : ∃ la, lvP P (rk a + 1) a = la := ⟨_, rfl⟩
  obtain ⟨lb, hlb⟩ : ∃ lb, lvP P (rk b + 1) b = lb := ⟨_, rfl⟩
  unfold LvC at HLA HLB
  rw [hla] at HLA hSA hlA ⊢
  rw [hlb] at HLB hSB hlB ⊢
  obtain ⟨L1, hL1⟩ : ∃ n, la.length = n := ⟨_, rfl⟩
  obtain ⟨L2, hL2⟩ : ∃ n, lb.length = n := ⟨_, rfl⟩
  obtain ⟨lI, hlI⟩ : ∃ l, (la.map fun k => (P k).id) = l := ⟨_, rfl⟩
  obtain ⟨mI, hmI⟩ : ∃ l, (lb.map fun k => (P k).id) = l := ⟨_, rfl⟩
  rw [hlI, hmI]
  obtain ⟨R, hR⟩ : ∃ R, hkG lI mI lI 0 0 0 = R := ⟨_, rfl⟩
  rw [hR]
  have HR := hide1 hR
  have HL1 := hide1 hL1
  have HL2 := hide1 hL2
  have HLI := hide1 hlI
  have HMI := hide1 hmI
  have HF := hide1 hF
  have HSA := hide1 hSA
  have HSB := hide1 hSB
  have b1 : (L1 : Int) ≤ 4194304 := by omega
  have b2 : (L2 : Int) ≤ 4194304 := by omega
  clear hF hlen ha hb hSA hSB hlA hlB hla hlb hL1 hL2 hlI hmI hR
  go_enter Try.func18, Try.ntmps18
  go_wp2_with (first
    | (have _g := HO1; clear _g; go_at_call 48; refine (HLB.out _ (HF.out.keep HK1.out)).mono ?_; rintro e w2 ⟨v2, rfl, ho2, hk2⟩; obtain ⟨a2, c2, rfl⟩ := ho2.form; rw [HL2.out] at ho2 ⊢; have HO2 := hide1 ho2; have HK2 := hide1 hk2; clear ho2 hk2)
    | (go_at_call 48; refine (HLA.out _ HF.out).mono ?_; rintro e w1 ⟨v1, rfl, ho1, hk1⟩; obtain ⟨a1, c1, rfl⟩ := ho1.form; rw [HL1.out] at ho1 ⊢; have HO1 := hide1 ho1; have HK1 := hide1 hk1; clear ho1 hk1))
  have HW2 : Hid (Kept w w2) := gtrans HK1.out HK2.out
  have hF2 := HF.out.keep HW2.out
  have HP1 : Hid (∀ w', Kept w2 w' → PlRd w' (.slice a1 L1 c1) la (fun k => (P k).id)) := fun w' hk => pl_of (HO1.out.keep HK2.out) HL1.out hF2 HSA.out hk
  have HP2 : Hid (∀ w', Kept w2 w' → PlRd w' (.slice a2 L2 c2) lb (fun k => (P k).id)) := fun w' hk => pl_of HO2.out HL2.out hF2 HSB.out hk
  have hc1 : (L1 : Int) ≤ (c1 : Int) := by have h := HO1.out.cap; rw [HL1.out] at h; omega
  clear hF2 HLA HLB HO1 HO2 HK1 HK2 HSA HSB HF
  go_loopw [7, 8, 9, 10] (fun v7 v8 v9 v10 wr => ∃ (j fr into n7 : Nat) (done : List Hk) (ca : Option Addr) (cc : Nat), v7 = .slice ca n7 cc ∧ v8 = .int .i64 (fr : Int) ∧ v9 = .int .i64 (into : Int) ∧ v10 = .int .i64 (j : Int) ∧ j ≤ L1 + 1 ∧ fr ≤ L1 + 1 ∧ into ≤ L2 + 1 ∧ n7 ≤ j ∧ Hid (done.length = n7 ∧ HuI lI mI R j fr into done ∧ LO hkE wr w2.heap.size (.slice ca n7 cc) done ∧ Kept w2 wr)) (fun _ _ _ v10 _ => L1 + 1 - (intOf v10).toNat)
  case atStart => exact ⟨0, 0, 0, 0, [], none, 0, rfl, rfl, rfl, rfl, by omega, by omega, by omega, by omega, rfl, Or.inl ⟨Nat.zero_le _, by rw [List.drop_zero, List.nil_append]; exact HR.out.symm⟩, LO.nil _ _, Kept.refl w2⟩
  case round =>
    obtain ⟨j, fr, into, n7, done, ca, cc, rfl, rfl, rfl, rfl, hj, hfr, hin, hn7, hI⟩ := hrel
    have hlI : lI.length = L1 := by rw [← HLI.out, List.length_map]; exact HL1.out
    have hmI : mI.length = L2 := by rw [← HMI.out, List.length_map]; exact HL2.out
    by_cases hjN : j ≤ L1
    · skip
      obtain ⟨n0, hHu, hLO, hKR⟩ := hI.out
      rcases hHu with ⟨_, hHu⟩ | ⟨h9, _⟩
      rotate_left
      · omega
      by_cases hjL : j < L1
      · obtain ⟨k, hk⟩ : ∃ k, la[j]? = some k := ⟨_, List.getElem?_eq_getElem (by rw [HL1.out]; exact hjL)⟩
        obtain ⟨a', c', hv', _, hrd⟩ := HP1.out wr hKR
        obtain ⟨g, o, rfl, r0, r1⟩ := hrd j k hk
        injection hv' with hv1 hv2 hv3
        subst hv1
        obtain ⟨x, hx⟩ : ∃ x, (P k).id = x := ⟨_, rfl⟩
        dsimp only at r1
        rw [hx] at r1
        have hd : lI.drop j = x :: lI.drop (j + 1) := by
          have h9 : lI[j]? = some x := by rw [← HLI.out, List.getElem?_map, hk]; simp [hx]
          have h8 := List.getElem?_eq_some_iff.1 h9
          rw [List.drop_eq_getElem_cons h8.1, h8.2]
        rw [hd, hkG] at hHu
        have HON2 : Hid (∀ w', Kept w2 w' → Calls Try.prog 49 #[.slice a2 L2 c2, .int .i64 x] w' fun e w'' => e = .returned (.int .i64 (onceG x mI 0 (-1))) ∧ w'' = w') := fun w' hk => by have h := onceP_is _ lb (fun k => (P k).id) x w' (HP2.out w' hk) (by rw [HL2.out]; omega); rw [HMI.out] at h; exact h
        have HON1 : Hid (∀ w', Kept w2 w' → Calls Try.prog 49 #[.slice (some ⟨g, o, none⟩) L1 c1, .int .i64 x] w' fun e w'' => e = .returned (.int .i64 (onceG x lI 0 (-1))) ∧ w'' = w') := fun w' hk => by have h := onceP_is _ la (fun k => (P k).id) x w' (HP1.out w' hk) (by rw [HL1.out]; omega); rw [HLI.out] at h; exact h
        have hT : onceG x mI 0 (-1) < (L2 : Int) ∨ onceG x mI 0 (-1) = -1 := by
          rw [onceG_new]
          split
          · rename_i hc
            left
            have h9 := List.idxOf_lt_length_of_mem (List.count_pos_iff.1 (by omega : 0 < List.count x mI))
            omega
          · right; rfl
        obtain ⟨t, ht⟩ : ∃ t, onceG x mI 0 (-1) = t := ⟨_, rfl⟩
        obtain ⟨u, hu⟩ : ∃ u, onceG x lI 0 (-1) = u := ⟨_, rfl⟩
        rw [ht] at hHu HON2 hT
        rw [hu] at hHu HON1
        have hjI : (j : Int) < (L1 : Int) := by omega
        have hjl2 : j + 1 ≤ lI.length := by omega
        have HI : Hid (done.length = n7 ∧ True ∧ LO hkE wr w2.heap.size (.slice ca n7 cc) done ∧ Kept w2 wr) := ⟨n0, trivial, hLO, hKR⟩
        clear hv2 hv3 hrd hk hx hd ht hu hI n0 hLO hKR
        by_cases e1 : t < (into : Int)
        · rw [if_pos (Or.inl e1)] at hHu
          have HN : Hid (HuI lI mI R (j + 1) fr into done) := Or.inl ⟨hjl2, hHu⟩
          clear hHu
          go_wp2_with (first
            | (have _g := HQ2; clear _g; go_at_call 49; refine (HON1.out _ HI.out.2.2.2).mono ?_; rintro e w9 ⟨rfl, hw9⟩; replace hw9 := hw9.symm; subst hw9)
            | (go_at_call 49; refine (HON2.out _ HI.out.2.2.2).mono ?_; rintro e w9 ⟨rfl, hw9⟩; replace hw9 := hw9.symm; subst hw9; have HQ2 := hide1 trivial))
          exact ⟨⟨j + 1, fr, into, n7, done, ca, cc, rfl, rfl, rfl, by simp, by omega, by omega, by omega, by omega, HI.out.1, HN.out, HI.out.2.2.1, HI.out.2.2.2⟩, by simp [intOf] <;> omega⟩
        by_cases e2 : u < 0
        · rw [if_pos (Or.inr e2)] at hHu
          have HN : Hid (HuI lI mI R (j + 1) fr into done) := Or.inl ⟨hjl2, hHu⟩
          clear hHu
          go_wp2_with (first
            | (have _g := HQ2; clear _g; go_at_call 49; refine (HON1.out _ HI.out.2.2.2).mono ?_; rintro e w9 ⟨rfl, hw9⟩; replace hw9 := hw9.symm; subst hw9)
            | (go_at_call 49; refine (HON2.out _ HI.out.2.2.2).mono ?_; rintro e w9 ⟨rfl, hw9⟩; replace hw9 := hw9.symm; subst hw9; have HQ2 := hide1 trivial))
          exact ⟨⟨j + 1, fr, into, n7, done, ca, cc, rfl, rfl, rfl, by simp, by omega, by omega, by omega, by omega, HI.out.1, HN.out, HI.out.2.2.1, HI.out.2.2.2⟩, by simp [intOf] <;> omega⟩
        rw [if_neg (by omega)] at hHu
        obtain ⟨p, rfl⟩ : ∃ p : Nat, t = (p : Int) := ⟨t.toNat, by omega⟩
        rw [Int.toNat_natCast] at hHu
        have hpL : p < L2 := by omega
        have HNY : Hid ((fr < j ∨ into < p) → HuI lI mI R (j + 1) (j + 1) (p + 1) (done ++ [⟨fr, j, into, p⟩])) := fun h => Or.inl ⟨hjl2, by rw [hHu, if_pos h, List.append_assoc]⟩
        have HNN : Hid (¬ (fr < j ∨ into < p) → HuI lI mI R (j + 1) (j + 1) (p + 1) done) := fun h => Or.inl ⟨hjl2, by rw [hHu, if_neg h, List.nil_append]⟩
        clear hHu hT
        by_cases t1 : (fr : Int) < (j : Int)
        · skip
          go_wp2_with (first
            | (have _g := HQ2; clear _g; go_at_call 49; refine (HON1.out _ HI.out.2.2.2).mono ?_; rintro e w9 ⟨rfl, hw9⟩; replace hw9 := hw9.symm; subst hw9)
            | (go_at_call 49; refine (HON2.out _ HI.out.2.2.2).mono ?_; rintro e w9 ⟨rfl, hw9⟩; replace hw9 := hw9.symm; subst hw9; have HQ2 := hide1 trivial)
            | (at_builtin; refine wpl_lo (E := hkE) rfl _ _ rfl w2.heap.size (.slice ca n7 cc) done n7 HI.out.1 rfl (HI.out.2.2.1.keep ((Kept.refl wr).alloc _ _)) wr.heap.size ⟨fr, j, into, p⟩ rfl (World.alloc_heap_new wr _) (by show (n7 + 1) * 32 ≤ 140737488355328; omega) (by unfold maxLen; omega) (Nat.le_trans HI.out.2.2.2.size (alloc_le wr _)) ?_; intro g9 cp9 w9 ho9 hg9 hor9 hl9; have HO9 := hide1 ho9; have HK9 := hide1 (Kept.lo (gtrans HI.out.2.2.2 ((Kept.refl wr).alloc _ _)) (HI.out.2.2.1.keep ((Kept.refl wr).alloc _ _)) hg9); clear ho9 hg9 hor9 hl9))
          exact ⟨⟨j + 1, j + 1, p + 1, n7 + 1, done ++ [⟨fr, j, into, p⟩], some ⟨g9, 0, none⟩, cp9, rfl, by simp, by simp, by simp, by omega, by omega, by omega, by omega, by rw [List.length_append, HI.out.1]; rfl, HNY.out (by omega), HO9.out, HK9.out⟩, by simp [intOf] <;> omega⟩
        by_cases t2 : (into : Int) < (p : Int)
        · skip
          go_wp2_with (first
            | (have _g := HQ2; clear _g; go_at_call 49; refine (HON1.out _ HI.out.2.2.2).mono ?_; rintro e w9 ⟨rfl, hw9⟩; replace hw9 := hw9.symm; subst hw9)
            | (go_at_call 49; refine (HON2.out _ HI.out.2.2.2).mono ?_; rintro e w9 ⟨rfl, hw9⟩; replace hw9 := hw9.symm; subst hw9; have HQ2 := hide1 trivial)
            | (at_builtin; refine wpl_lo (E := hkE) rfl _ _ rfl w2.heap.size (.slice ca n7 cc) done n7 HI.out.1 rfl (HI.out.2.2.1.keep ((Kept.refl wr).alloc _ _)) wr.heap.size ⟨fr, j, into, p⟩ rfl (World.alloc_heap_new wr _) (by show (n7 + 1) * 32 ≤ 140737488355328; omega) (by unfold maxLen; omega) (Nat.le_trans HI.out.2.2.2.size (alloc_le wr _)) ?_; intro g9 cp9 w9 ho9 hg9 hor9 hl9; have HO9 := hide1 ho9; have HK9 := hide1 (Kept.lo (gtrans HI.out.2.2.2 ((Kept.refl wr).alloc _ _)) (HI.out.2.2.1.keep ((Kept.refl wr).alloc _ _)) hg9); clear ho9 hg9 hor9 hl9))
          exact ⟨⟨j + 1, j + 1, p + 1, n7 + 1, done ++ [⟨fr, j, into, p⟩], some ⟨g9, 0, none⟩, cp9, rfl, by simp, by simp, by simp, by omega, by omega, by omega, by omega, by rw [List.length_append, HI.out.1]; rfl, HNY.out (by omega), HO9.out, HK9.out⟩, by simp [intOf] <;> omega⟩
        go_wp2_with (first
          | (have _g := HQ2; clear _g; go_at_call 49; refine (HON1.out _ HI.out.2.2.2).mono ?_; rintro e w9 ⟨rfl, hw9⟩; replace hw9 := hw9.symm; subst hw9)
          | (go_at_call 49; refine (HON2.out _ HI.out.2.2.2).mono ?_; rintro e w9 ⟨rfl, hw9⟩; replace hw9 := hw9.symm; subst hw9; have HQ2 := hide1 trivial)
          | fail)
        exact ⟨⟨j + 1, j + 1, p + 1, n7, done, ca, cc, rfl, by simp, by simp, by simp, by omega, by omega, by omega, by omega, HI.out.1, HNN.out (by omega), HI.out.2.2.1, HI.out.2.2.2⟩, by simp [intOf] <;> omega⟩
      · obtain rfl : j = L1 := by omega
        rw [List.drop_of_length_le (by omega), hkG, hmI] at hHu
        have HNY : Hid ((fr < j ∨ into < L2) → HuI lI mI R (j + 1) (j + 1) (L2 + 1) (done ++ [⟨fr, j, into, L2⟩])) := fun h => Or.inr ⟨by omega, by rw [hHu, if_pos h]⟩
        have HNN : Hid (¬ (fr < j ∨ into < L2) → HuI lI mI R (j + 1) (j + 1) (L2 + 1) done) := fun h => Or.inr ⟨by omega, by rw [hHu, if_neg h, List.append_nil]⟩
        have HI : Hid (done.length = n7 ∧ True ∧ LO hkE wr w2.heap.size (.slice ca n7 cc) done ∧ Kept w2 wr) := ⟨n0, trivial, hLO, hKR⟩
        clear hHu hI n0 hLO hKR
        by_cases t1 : (fr : Int) < (j : Int)
        · skip
          go_wp2_with (first
            | (at_builtin; refine wpl_lo (E := hkE) rfl _ _ rfl w2.heap.size (.slice ca n7 cc) done n7 HI.out.1 rfl (HI.out.2.2.1.keep ((Kept.refl wr).alloc _ _)) wr.heap.size ⟨fr, j, into, L2⟩ rfl (World.alloc_heap_new wr _) (by show (n7 + 1) * 32 ≤ 140737488355328; omega) (by unfold maxLen; omega) (Nat.le_trans HI.out.2.2.2.size (alloc_le wr _)) ?_; intro g9 cp9 w9 ho9 hg9 hor9 hl9; have HO9 := hide1 ho9; have HK9 := hide1 (Kept.lo (gtrans HI.out.2.2.2 ((Kept.refl wr).alloc _ _)) (HI.out.2.2.1.keep ((Kept.refl wr).alloc _ _)) hg9); clear ho9 hg9 hor9 hl9))
          exact ⟨⟨j + 1, j + 1, L2 + 1, n7 + 1, done ++ [⟨fr, j, into, L2⟩], some ⟨g9, 0, none⟩, cp9, rfl, by simp, by simp, by simp, by omega, by omega, by omega, by omega, by rw [List.length_append, HI.out.1]; rfl, HNY.out (by omega), HO9.out, HK9.out⟩, by simp [intOf] <;> omega⟩
        by_cases t2 : (into : Int) < (L2 : Int)
        · skip
          go_wp2_with (first
            | (at_builtin; refine wpl_lo (E := hkE) rfl _ _ rfl w2.heap.size (.slice ca n7 cc) done n7 HI.out.1 rfl (HI.out.2.2.1.keep ((Kept.refl wr).alloc _ _)) wr.heap.size ⟨fr, j, into, L2⟩ rfl (World.alloc_heap_new wr _) (by show (n7 + 1) * 32 ≤ 140737488355328; omega) (by unfold maxLen; omega) (Nat.le_trans HI.out.2.2.2.size (alloc_le wr _)) ?_; intro g9 cp9 w9 ho9 hg9 hor9 hl9; have HO9 := hide1 ho9; have HK9 := hide1 (Kept.lo (gtrans HI.out.2.2.2 ((Kept.refl wr).alloc _ _)) (HI.out.2.2.1.keep ((Kept.refl wr).alloc _ _)) hg9); clear ho9 hg9 hor9 hl9))
          exact ⟨⟨j + 1, j + 1, L2 + 1, n7 + 1, done ++ [⟨fr, j, into, L2⟩], some ⟨g9, 0, none⟩, cp9, rfl, by simp, by simp, by simp, by omega, by omega, by omega, by omega, by rw [List.length_append, HI.out.1]; rfl, HNY.out (by omega), HO9.out, HK9.out⟩, by simp [intOf] <;> omega⟩
        go_wp2_with (first
          | fail)
        exact ⟨⟨j + 1, j + 1, L2 + 1, n7, done, ca, cc, rfl, by simp, by simp, by simp, by omega, by omega, by omega, by omega, HI.out.1, HNN.out (by omega), HI.out.2.2.1, HI.out.2.2.2⟩, by simp [intOf] <;> omega⟩
    · obtain rfl : j = L1 + 1 := by omega
      have HI := hide1 hI.out
      clear hI
      go_wp2_with fail
      go_ret
      obtain ⟨h1, h2, h3, h4⟩ := HI.out
      rcases h2 with ⟨h5, _⟩ | ⟨_, h5⟩
      · omega
      · rw [h5]
        exact ⟨_, rfl, h3.low HW2.out.size, gtrans HW2.out h4⟩

end Tr
end Ex
end Go.Proofs.Ytkkilkojmdeopaa
