import Derived.Test.YteckbpmliahhhaaTrRows
namespace Go.Proofs.Yteckbpmliahhhaa
open Go.RowKit
attribute [local go_sem] Oper.semAt_some
namespace Ex
namespace Tr

def leafB (N : Nat → Nd) (q : Nat × Nat) : Bool := (N q.2).kind == 1
/-- The walk through the leaves at its label: c: the node that comes next; pa: what was passed. -/
def LeavJ (R : Nat → Prop) (N : Nat → Nd) (X : Nat → Prop) (J : (Nat → Prop) → List (Nat × Nat) → World → Prop) (l br D M : Nat) (xs : List (Nat × Nat)) (W : World) (k : Nat) (a : Act) (w : World) : Prop :=
  ∃ (T : Nat → Value) (c at_ : Nat) (ov : Value) (sk pa : List (Nat × Nat)), a = { tmps := #[.func (.yield l) #[] #[], .pointer (some ⟨br, 0, none⟩), T 2, .pointer (some ⟨D, 0, none⟩), .pointer (some ⟨c, 0, none⟩), T 5, T 6, T 7, T 8, T 9, T 10, T 11, T 12, T 13, T 14, T 15, T 16, T 17, T 18, T 19, T 20, T 21, T 22], defers := [] } ∧
    R c ∧ WayAt w D ov at_ ∧ OOwn w (D + 1) ov sk ∧ SkOk R N M sk ∧ (N c).size + sk.length ≤ M ∧ J (fun b => b = D ∨ ov.ownBlock = some b) (pa.filter (leafB N)) w ∧ KX X W w ∧ pa ++ wl N (sizeS N (c :: pendL N sk.reverse)) (c :: pendL N sk.reverse) at_ = xs ∧ at_ ≤ pa.length * 524288 ∧ pa.length + sizeS N (c :: pendL N sk.reverse) = M ∧ k = sizeS N (c :: pendL N sk.reverse)
theorem leavJ_of {R : Nat → Prop} {N : Nat → Nd} {X : Nat → Prop} {J : (Nat → Prop) → List (Nat × Nat) → World → Prop} {l br D M : Nat} {xs : List (Nat × Nat)} {W w : World} {k : Nat} (L : List Value) (c at_ : Nat) (ov : Value) (sk pa : List (Nat × Nat))
    (h : L = [.func (.yield l) #[] #[], .pointer (some ⟨br, 0, none⟩), nthV L 2, .pointer (some ⟨D, 0, none⟩), .pointer (some ⟨c, 0, none⟩), nthV L 5, nthV L 6, nthV L 7, nthV L 8, nthV L 9, nthV L 10, nthV L 11, nthV L 12, nthV L 13, nthV L 14, nthV L 15, nthV L 16, nthV L 17, nthV L 18, nthV L 19, nthV L 20, nthV L 21, nthV L 22])
    (h2 : R c ∧ WayAt w D ov at_ ∧ OOwn w (D + 1) ov sk ∧ SkOk R N M sk ∧ (N c).size + sk.length ≤ M ∧ J (fun b => b = D ∨ ov.ownBlock = some b) (pa.filter (leafB N)) w ∧ KX X W w ∧ pa ++ wl N (sizeS N (c :: pendL N sk.reverse)) (c :: pendL N sk.reverse) at_ = xs ∧ at_ ≤ pa.length * 524288 ∧ pa.length + sizeS N (c :: pendL N sk.reverse) = M ∧ k = sizeS N (c :: pendL N sk.reverse)) :
    LeavJ R N X J l br D M xs W k { tmps := L.toArray, defers := [] } w := ⟨nthV L, c, at_, ov, sk, pa, by rw [← h], h2⟩
theorem filter_front {α : Type} (p : α → Bool) {pa rest xs : List α} {x : α} (h : pa ++ x :: rest = xs) (hx : p x = true) : (pa.filter p ++ [x]) <+: xs.filter p := by
  rw [← h, List.filter_append, List.filter_cons_of_pos hx]
  exact ⟨rest.filter p, by rw [List.append_assoc]; rfl⟩
theorem filter_snoc {α : Type} (p : α → Bool) (pa : List α) (x : α) (hx : p x = true) : (pa ++ [x]).filter p = pa.filter p ++ [x] := by rw [List.filter_append, List.filter_cons_of_pos hx]; rfl
theorem filter_same {α : Type} (p : α → Bool) (pa : List α) (x : α) (hx : p x = false) : (pa ++ [x]).filter p = pa.filter p := by rw [List.filter_append, List.filter_cons_of_neg (by simp [hx])]; simp

set_option linter.unusedSimpArgs false in
set_option maxRecDepth 100000 in
set_option maxHeartbeats 2000000 in
theorem leaves_seq (n : Nat) (hn : 1 ≤ n) (R : Nat → Prop) (N : Nat → Nd) (B br b : Nat) (w : World) (hF : Forest R N B w) (hb : R b) (hB : B ≤ w.heap.size) (hbr : br < w.heap.size) (hc : w.cell? ⟨br, 0, none⟩ = some (.pointer (some ⟨b, 0, none⟩))) :
    SeqW Fence.wide n Try.prog 53 #[.pointer (some ⟨br, 0, none⟩)] encW (KX fun k => k < B ∨ k = br) ((wl N (N b).size [b] 0).filter (leafB N)) w := by
  intro l J Jx W hK hsz hJ hY h0
  have hcW : W.cell? ⟨br, 0, none⟩ = some (.pointer (some ⟨b, 0, none⟩)) := (World.cell?_of_block (w := w) (a := ⟨br, 0, none⟩) (hK.2 br (Or.inr rfl))).trans hc
  have hFW : Forest R N B W := hF.kb ⟨hsz, fun k hk => hK.2 k (Or.inl hk)⟩
  obtain ⟨D, hD⟩ : ∃ D, W.heap.size = D := ⟨_, rfl⟩
  obtain ⟨M, hM⟩ : ∃ M, (N b).size = M := ⟨_, rfl⟩
  have hM4 : M ≤ 4194304 := by have := (hF b hb).2.1.2.1; omega
  obtain ⟨xs, hxs⟩ : ∃ xs, wl N M [b] 0 = xs := ⟨_, rfl⟩
  rw [hM, hxs] at hY ⊢
  rw [hD] at hY ⊢
  have HD := hide1 hD
  have HM := hide1 hM
  have HX := hide1 hxs
  have HF := hide1 hFW
  have HJ := hide1 hJ
  have HY := hide1 hY
  have H0 := hide1 h0
  have HB := hide1 hb
  have hBD : B ≤ D := by omega
  have hbrD : br < D := by omega
  clear hF hc hK hY h0 hJ hFW hb hM hxs
  refine callsIn_of_wp Try.func53 rfl trivial ?_ rfl
  simp only [Try.ntmps53, List.size_toArray, List.length_cons, List.length_nil, Nat.reduceAdd, Nat.reduceSub, Array.replicate_succ, Array.replicate_zero, List.push_toArray, List.append_toArray, List.nil_append, List.cons_append]
  refine wpIn_wide.2 (wp_scope_go 0 (LeavJ R N (fun k => k < B ∨ k = br) J l br D M xs W) rfl ?_ ?_)
  · rintro k a w1 ⟨T, c, at_, ov, sk, pre, rfl, hRc, hW1, hO1, hS1, hM1, hJ1, hK1, hX1, ha1, hl1, rfl⟩
    refine (wpIn_wide (n := n)).1 ?_
    have hF1 : Forest R N B w1 := HF.out.kb ⟨hK1.1, fun k hk => hK1.2 k (Or.inl hk)⟩
    have hstep := wl_step hF1 hRc (pendL N sk.reverse) at_
    rw [hstep] at hX1
    obtain ⟨o0, o1, f0, f1⟩ := hW1.cells
    have hDl := hW1.lt
    have hog : ∀ d, ov.ownBlock = some d → D + 1 ≤ d ∧ d < w1.heap.size := fun d hd => hO1.lt d hd
    obtain ⟨kvc, _, _, _, _, n2, _⟩ := (hF1 c hRc).1.cells
    have HJ1 := hide1 hJ1
    have HF1 := hide1 hF1
    have HRC := hide1 hRc
    have HW1 := hide1 hW1
    have HO1 := hide1 hO1
    have HS1 := hide1 hS1
    have HM1 := hide1 hM1
    have HK1 := hide1 hK1
    have HX1 := hide1 hX1
    have HA1 := hide1 ha1
    have HL1 := hide1 hl1
    have HOG := hide1 hog
    clear hF1 hstep hog hRc hJ1 hW1 hO1 hS1 hM1 hK1 hX1 ha1 hl1
    by_cases hk1 : (N c).kind = 1
    · rw [hk1] at n2
      have HLB : Hid (leafB N (at_, c) = true) := by show ((N c).kind == 1) = true; rw [hk1]; rfl
      obtain ⟨fn, tmps, assign, body, hy, hR⟩ := HY.out _ (pre.filter (leafB N)) (at_, c) w1 HJ1.out (filter_front _ HX1.out HLB.out) (fun d hd => by
        rcases hd with rfl | hd
        · exact ⟨Nat.le_refl _, hDl⟩
        · have := HOG.out d hd; omega)
      have HR := hide1 hR
      dsimp only [encW] at hy
      clear hR
      gi_wp2_with fail
      refine HR.out.mono ?_
      rintro e W3 (⟨rfl, hJ3, hK3, hs3, hT3⟩ | ⟨rfl, hx3⟩)
      · have hW3 : WayAt W3 D ov at_ := (hT3 D (Or.inl rfl)).trans HW1.out
        have hO3 : OOwn W3 (D + 1) ov sk := owns_same HO1.out (fun d hd => hT3 d (Or.inr hd))
        have hF3 : Forest R N B W3 := HF1.out.kb ⟨hs3, fun k hk => hK3.2 k (Or.inl hk)⟩
        have hKW3 := HK1.out.trans hK3
        have hla := HA1.out
        have hll := HL1.out
        rw [sizeS_cons] at hll
        have hsc := (hF3 c HRC.out).2.1.1
        have hat : at_ ≤ 2305843009213693952 := by omega
        have HBH := hide1 (behind_is R N B M D (D + 1) c ov at_ sk W3 hF3 hW3 hO3 (by omega) hBD hW3.lt HS1.out HRC.out HM1.out hM4 hat)
        have HF3 := hide1 hF3
        rw [← filter_snoc _ _ _ HLB.out] at hJ3
        have HJ3 := hide1 hJ3
        have HKW3 := hide1 hKW3
        clear hW3 hO3 hF3 hJ3 hK3 hs3 hT3 hKW3 hla hll hsc hat
        gi_wp2_with fail
        refine ⟨trivial, ?_⟩
        refine (callsIn_wide.2 HBH.out).mono ?_
        intro e w4 hv
        obtain ⟨ps, hps⟩ : ∃ ps, (N c).kids.map Prod.fst ++ pendL N sk.reverse = ps := ⟨_, rfl⟩
        rw [hps] at hv
        have hx := HX1.out
        rw [hps] at hx
        have hll := HL1.out
        have hsz5 : sizeS N (c :: pendL N sk.reverse) = 1 + sizeS N ps := by rw [sizeS_cons, (HF3.out c HRC.out).2.2.2.2, ← hps, sizeS_app]; omega
        have hkb : ∀ {w5 : World}, TK D ov.ownBlock W3 w5 → KX (fun k => k < B ∨ k = br) W3 w5 := fun ht => ⟨ht.2.2.2.1, fun k hk => ht.2.2.2.2 k (by have := HKW3.out.1; omega) (by omega) (fun e => by have := (HOG.out k e.symm).1; omega)⟩
        cases ps with
        | nil =>
          obtain ⟨rfl, ov4, sk4, hW4, hO4, hS4, hP4, hR4, hT4⟩ := hv
          have HX4 := hide1 (show pre ++ [(at_, c)] = xs by rw [wl_nil] at hx; exact hx)
          have HJ4 := hide1 (HJ.out _ _ _ _ _ HJ3.out (step_behind hT4 hR4 (fun d hd => (hO4.lt d hd).2)))
          have HO4 := hide1 hO4
          have HD4 := hide1 hW4.lt
          clear hW4 hO4 hS4 hP4 hR4 hT4 hx hll hsz5 hkb hps
          gi_wp2_with fail
          simp only [jumps]
          go_end0
          refine ⟨⟨_, rfl⟩, Or.inl ⟨_, by rw [← HX4.out]; exact HJ4.out, fun d hd => ?_⟩⟩
          rcases hd with rfl | hd
          · exact ⟨Nat.le_refl _, HD4.out⟩
          · have := HO4.out.lt d hd
            omega
        | cons k rest =>
          obtain ⟨rfl, hRk, ov4, sk4, hW4, hO4, hS4, hP4, hR4, hT4, hM4'⟩ := hv
          have HJ4 := hide1 (HJ.out _ _ _ _ _ HJ3.out (step_behind hT4 hR4 (fun d hd => (hO4.lt d hd).2)))
          have hK4 := HKW3.out.trans (hkb hT4)
          have HG : Hid (∃ k', k' < sizeS N (c :: pendL N sk.reverse) ∧ R k ∧ WayAt w4 D ov4 (at_ + if (N c).kind = 1 then (N c).width else 0) ∧ OOwn w4 (D + 1) ov4 sk4 ∧ SkOk R N M sk4 ∧ (N k).size + sk4.length ≤ M ∧ J (fun b => b = D ∨ ov4.ownBlock = some b) ((pre ++ [(at_, c)]).filter (leafB N)) w4 ∧ KX (fun k => k < B ∨ k = br) W w4 ∧ (pre ++ [(at_, c)]) ++ wl N (sizeS N (k :: pendL N sk4.reverse)) (k :: pendL N sk4.reverse) (at_ + if (N c).kind = 1 then (N c).width else 0) = xs ∧ (at_ + if (N c).kind = 1 then (N c).width else 0) ≤ (pre ++ [(at_, c)]).length * 524288 ∧ (pre ++ [(at_, c)]).length + sizeS N (k :: pendL N sk4.reverse) = M ∧ k' = sizeS N (k :: pendL N sk4.reverse)) := by
            refine ⟨_, ?_, hRk, hW4, hO4, hS4, hM4', HJ4.out, hK4, ?_, ?_, ?_, rfl⟩
            · rw [hP4, hsz5]
              omega
            · rw [hP4, List.append_assoc]
              exact hx
            · have h1 := lwid_le HF3.out HRC.out
              unfold lwid at h1
              have h2 := HA1.out
              rw [List.length_append, Nat.add_mul]
              show _ ≤ _ + 1 * 524288
              omega
            · rw [hP4, List.length_append]
              show pre.length + 1 + _ = M
              omega
          clear hW4 hO4 hS4 hP4 hR4 hT4 hx hll hsz5 hkb hps hRk hK4 hM4'
          gi_wp2_with fail
          obtain ⟨k', hk', hg⟩ := HG.out
          refine wpIn_goto (And.intro (a := (0 : Nat) = 0) (b := ∃ k', k' < sizeS N (c :: pendL N sk.reverse) ∧ LeavJ R N (fun k => k < B ∨ k = br) J l br D M xs W k' _ w4) rfl ⟨k', hk', ?_⟩)
          exact leavJ_of _ k _ ov4 sk4 (pre ++ [(at_, c)]) (by kernel_rfl) hg
      · have HX3 := hide1 hx3
        gi_wp2_with fail
        simp only [jumps]
        refine bodyPost_ret (results_none rfl _ _ _) rfl ?_
        refine ⟨⟨_, rfl⟩, Or.inr ⟨_, filter_front _ HX1.out HLB.out, HX3.out⟩⟩
    · have hk1b : ((N c).kind == 1) = false := by simpa using hk1
      have HLB : Hid (leafB N (at_, c) = false) := hk1b
      have hW3 : WayAt w1 D ov at_ := HW1.out
      have hO3 : OOwn w1 (D + 1) ov sk := HO1.out
      have hF3 : Forest R N B w1 := HF1.out
      have hKW3 := HK1.out
      have hJ3 := HJ1.out
      rw [← filter_same _ _ _ HLB.out] at hJ3
      have hla := HA1.out
      have hll := HL1.out
      rw [sizeS_cons] at hll
      have hsc := (hF3 c HRC.out).2.1.1
      have hat : at_ ≤ 2305843009213693952 := by omega
      have HBH := hide1 (behind_is R N B M D (D + 1) c ov at_ sk w1 hF3 hW3 hO3 (by omega) hBD hW3.lt HS1.out HRC.out HM1.out hM4 hat)
      have HF3 := hide1 hF3
      have HJ3 := hide1 hJ3
      have HKW3 := hide1 hKW3
      clear hW3 hO3 hF3 hJ3 hKW3 hla hll hsc hat
      gi_wp2_with fail
      refine ⟨fun f hf => (by cases hf), ?_⟩
      gi_wp2_with fail
      refine ⟨trivial, ?_⟩
      refine (callsIn_wide.2 HBH.out).mono ?_
      intro e w4 hv
      obtain ⟨ps, hps⟩ : ∃ ps, (N c).kids.map Prod.fst ++ pendL N sk.reverse = ps := ⟨_, rfl⟩
      rw [hps] at hv
      have hx := HX1.out
      rw [hps] at hx
      have hll := HL1.out
      have hsz5 : sizeS N (c :: pendL N sk.reverse) = 1 + sizeS N ps := by rw [sizeS_cons, (HF3.out c HRC.out).2.2.2.2, ← hps, sizeS_app]; omega
      have hkb : ∀ {w5 : World}, TK D ov.ownBlock w1 w5 → KX (fun k => k < B ∨ k = br) w1 w5 := fun ht => ⟨ht.2.2.2.1, fun k hk => ht.2.2.2.2 k (by have := HKW3.out.1; omega) (by omega) (fun e => by have := (HOG.out k e.symm).1; omega)⟩
      cases ps with
      | nil =>
        obtain ⟨rfl, ov4, sk4, hW4, hO4, hS4, hP4, hR4, hT4⟩ := hv
        have HX4 := hide1 (show pre ++ [(at_, c)] = xs by rw [wl_nil] at hx; exact hx)
        have HJ4 := hide1 (HJ.out _ _ _ _ _ HJ3.out (step_behind hT4 hR4 (fun d hd => (hO4.lt d hd).2)))
        have HO4 := hide1 hO4
        have HD4 := hide1 hW4.lt
        clear hW4 hO4 hS4 hP4 hR4 hT4 hx hll hsz5 hkb hps
        gi_wp2_with fail
        simp only [jumps]
        go_end0
        refine ⟨⟨_, rfl⟩, Or.inl ⟨_, by rw [← HX4.out]; exact HJ4.out, fun d hd => ?_⟩⟩
        rcases hd with rfl | hd
        · exact ⟨Nat.le_refl _, HD4.out⟩
        · have := HO4.out.lt d hd
          omega
      | cons k rest =>
        obtain ⟨rfl, hRk, ov4, sk4, hW4, hO4, hS4, hP4, hR4, hT4, hM4'⟩ := hv
        have HJ4 := hide1 (HJ.out _ _ _ _ _ HJ3.out (step_behind hT4 hR4 (fun d hd => (hO4.lt d hd).2)))
        have hK4 := HKW3.out.trans (hkb hT4)
        have HG : Hid (∃ k', k' < sizeS N (c :: pendL N sk.reverse) ∧ R k ∧ WayAt w4 D ov4 (at_ + if (N c).kind = 1 then (N c).width else 0) ∧ OOwn w4 (D + 1) ov4 sk4 ∧ SkOk R N M sk4 ∧ (N k).size + sk4.length ≤ M ∧ J (fun b => b = D ∨ ov4.ownBlock = some b) ((pre ++ [(at_, c)]).filter (leafB N)) w4 ∧ KX (fun k => k < B ∨ k = br) W w4 ∧ (pre ++ [(at_, c)]) ++ wl N (sizeS N (k :: pendL N sk4.reverse)) (k :: pendL N sk4.reverse) (at_ + if (N c).kind = 1 then (N c).width else 0) = xs ∧ (at_ + if (N c).kind = 1 then (N c).width else 0) ≤ (pre ++ [(at_, c)]).length * 524288 ∧ (pre ++ [(at_, c)]).length + sizeS N (k :: pendL N sk4.reverse) = M ∧ k' = sizeS N (k :: pendL N sk4.reverse)) := by
          refine ⟨_, ?_, hRk, hW4, hO4, hS4, hM4', HJ4.out, hK4, ?_, ?_, ?_, rfl⟩
          · rw [hP4, hsz5]
            omega
          · rw [hP4, List.append_assoc]
            exact hx
          · have h1 := lwid_le HF3.out HRC.out
            unfold lwid at h1
            have h2 := HA1.out
            rw [List.length_append, Nat.add_mul]
            show _ ≤ _ + 1 * 524288
            omega
          · rw [hP4, List.length_append]
            show pre.length + 1 + _ = M
            omega
        clear hW4 hO4 hS4 hP4 hR4 hT4 hx hll hsz5 hkb hps hRk hK4 hM4'
        gi_wp2_with fail
        obtain ⟨k', hk', hg⟩ := HG.out
        refine wpIn_goto (And.intro (a := (0 : Nat) = 0) (b := ∃ k', k' < sizeS N (c :: pendL N sk.reverse) ∧ LeavJ R N (fun k => k < B ∨ k = br) J l br D M xs W k' _ w4) rfl ⟨k', hk', ?_⟩)
        exact leavJ_of _ k _ ov4 sk4 (pre ++ [(at_, c)]) (by kernel_rfl) hg
  · intro hrest
    refine wp_seq ?_
    refine Code.wp_mono (Q := Exit.then (fun a w' => a = { tmps := #[.func (.yield l) #[] #[], .pointer (some ⟨br, 0, none⟩), undef, .pointer (some ⟨D, 0, none⟩), undef, undef, undef, undef, undef, undef, undef, undef, undef, undef, undef, undef, undef, undef, undef, undef, undef, undef, undef], defers := [] } ∧ w' = W.alloc (.cells #[.slice none 0 0, .int .i64 0] 112)) (fun _ _ _ => False)) (fun e a w' h => ?_) ?_
    · cases e with
      | normal =>
        obtain ⟨rfl, rfl⟩ := h
        refine wp_seq ?_
        refine Code.wp_mono (Q := Exit.then (fun a w' => ∃ k, LeavJ R N (fun k => k < B ∨ k = br) J l br D M xs W k a w') (fun _ _ _ => False)) (fun e a w' h => ?_) ?_
        · cases e with
          | normal =>
            obtain ⟨k, h⟩ := h
            exact wp_seq (wp_label (hrest _ _ _ h))
          | _ => exact h.elim
        · have hcA : (W.alloc (.cells #[.slice none 0 0, .int .i64 0] 112)).cell? ⟨br, 0, none⟩ = some (.pointer (some ⟨b, 0, none⟩)) := (cell_alloc_old W _ (by omega)).trans hcW
          have hkA : Kept W (W.alloc (.cells #[.slice none 0 0, .int .i64 0] 112)) := (Kept.refl W).alloc _ _
          have hwA := way_new W
          rw [HD.out] at hwA
          have hsA : (W.alloc (.cells #[.slice none 0 0, .int .i64 0] 112)).heap.size = D + 1 := by rw [← HD.out]; simp
          have HKA := hide1 hkA
          have HWA := hide1 hwA
          have HSA := hide1 hsA
          generalize W.alloc (.cells #[.slice none 0 0, .int .i64 0] 112) = WA at *
          clear hkA hwA hsA hrest
          go_wp2_with fail
          refine ⟨_, leavJ_of _ b 0 (.slice none 0 0) [] [] (by kernel_rfl) ⟨HB.out, HWA.out, World.ownsRow_nil _ _ _ _, fun i q hq => by simp at hq, by rw [HM.out]; exact Nat.le_refl _, ?_, ⟨HKA.out.size, fun k hk => HKA.out.2.2.2.2 k (by omega)⟩, ?_, Nat.zero_le _, ?_, rfl⟩⟩
          · refine HJ.out _ _ _ _ _ H0.out ⟨HKA.out.1, HKA.out.2.1, HKA.out.2.2.1, HKA.out.size, fun k hk _ => HKA.out.2.2.2.2 k hk, fun d hd => ?_⟩
            rcases hd with rfl | hd
            · exact Or.inr ⟨by rw [HD.out]; exact Nat.le_refl _, by rw [HSA.out]; exact Nat.lt_succ_self _⟩
            · cases hd
          · have e : sizeS N (b :: pendL N ([] : List (Nat × Nat)).reverse) = M := by rw [sizeS_cons, HM.out]; rfl
            rw [e]
            exact HX.out
          · have e : sizeS N (b :: pendL N ([] : List (Nat × Nat)).reverse) = M := by rw [sizeS_cons, HM.out]; rfl
            rw [e]
            exact Nat.zero_add M
      | _ => exact h.elim
    · rw [← HD.out]
      go_wp2_with fail
      exact ⟨by rw [HD.out], trivial⟩

end Tr
end Ex
end Go.Proofs.Yteckbpmliahhhaa
