import Derived.Test.YteckbpmliahhhaaTrSeq
import Derived.WalkMore
import Derived.BigRegion
namespace Go.Proofs.Yteckbpmliahhhaa
open Go.RowKit
attribute [local go_sem] Oper.semAt_some
namespace Ex
namespace Tr

/-- As Q; by a goto to a label: what J says of that label. -/
def jumps (J : Nat → Act → World → Prop) (Q : Exit → Act → World → Prop) : Exit → Act → World → Prop
  | .goto l, a, w => J l a w
  | e, a, w => Q e a w

/-- A scope in which the run jumps to labels: of each jump a number goes down. -/
theorem wp_scope_labels {P : Program} {a : Act} {w : World} {Q : Exit → Act → World → Prop} {c : Code} (J : Nat → Nat → Act → World → Prop)
    (first : c.wp P (jumps (fun l a' w' => ∃ n, J l n a' w') Q) a w)
    (pass : ∀ l n a w, J l n a w → ∃ rest, findLabel c l = some rest ∧ rest.wp P (jumps (fun l' a' w' => ∃ n', n' < n ∧ J l' n' a' w') Q) a w) : (Code.scope c).wp P Q a w := by
  intro b k cs
  have key : ∀ n l a w, J l n a w → ∃ rest, findLabel c l = some rest ∧ ∃ e a' w', Q e a' w' ∧ Arrives P (lone (b.at a (.code rest :: .inScope c :: k)) cs w) b k cs e a' w' := by
    intro n
    induction n using Nat.strongRecOn with
    | _ n ih =>
      intro l a w hJ
      obtain ⟨rest, hf, hw⟩ := pass l n a w hJ
      refine ⟨rest, hf, ?_⟩
      obtain ⟨e, a₁, w₁, hq, harr⟩ := hw b (.inScope c :: k) cs
      cases e with
      | normal => exact ⟨.normal, a₁, w₁, hq, Steps.trans harr (.one step_inScope)⟩
      | exit id => exact ⟨.exit id, a₁, w₁, hq, fun k' hk => harr k' (by simp [exitTo, hk])⟩
      | goto l' =>
        obtain ⟨n', hlt, hJ'⟩ := hq
        obtain ⟨rest', hf', e₂, a₂, w₂, hq₂, harr₂⟩ := ih n' hlt l' a₁ w₁ hJ'
        have hg : gotoIn l' (.inScope c :: k) = some (.code rest' :: .inScope c :: k) := by simp [gotoIn, hf']
        exact ⟨e₂, a₂, w₂, hq₂, .of_steps (harr _ hg) harr₂⟩
      | ret => exact ⟨_, a₁, w₁, hq, harr⟩
      | panic ch => exact ⟨_, a₁, w₁, hq, harr⟩
      | outgrown => exact ⟨_, a₁, w₁, hq, harr⟩
  obtain ⟨e, a₁, w₁, hq, harr⟩ := first b (.inScope c :: k) cs
  cases e with
  | normal => exact ⟨.normal, a₁, w₁, hq, .head step_scope (Steps.trans harr (.one step_inScope))⟩
  | exit id => exact ⟨.exit id, a₁, w₁, hq, fun k' hk => .head step_scope (harr k' (by simp [exitTo, hk]))⟩
  | goto l' =>
    obtain ⟨n', hJ'⟩ := hq
    obtain ⟨rest', hf', e₂, a₂, w₂, hq₂, harr₂⟩ := key n' l' a₁ w₁ hJ'
    have hg : gotoIn l' (.inScope c :: k) = some (.code rest' :: .inScope c :: k) := by simp [gotoIn, hf']
    exact ⟨e₂, a₂, w₂, hq₂, .of_steps (.head step_scope (harr _ hg)) harr₂⟩
  | ret => exact ⟨_, a₁, w₁, hq, .of_steps (.one step_scope) harr⟩
  | panic ch => exact ⟨_, a₁, w₁, hq, .of_steps (.one step_scope) harr⟩
  | outgrown => exact ⟨_, a₁, w₁, hq, .of_steps (.one step_scope) harr⟩

/-- A scope with one label; of each jump a number goes down. -/
theorem wp_scope_go {P : Program} {a : Act} {w : World} {Q : Exit → Act → World → Prop} {c rest : Code} (l : Nat) (J : Nat → Act → World → Prop) (hf : findLabel c l = some (Code.seq .skip rest))
    (pass : ∀ k a w, J k a w → rest.wp P (jumps (fun l' a' w' => l' = l ∧ ∃ k', k' < k ∧ J k' a' w') Q) a w)
    (first : (∀ k a w, J k a w → rest.wp P (jumps (fun l' a' w' => l' = l ∧ ∃ k', J k' a' w') Q) a w) → c.wp P (jumps (fun l' a' w' => l' = l ∧ ∃ k', J k' a' w') Q) a w) : (Code.scope c).wp P Q a w := by
  refine wp_scope_labels (fun t k a w => t = l ∧ J k a w) ?_ ?_
  · refine Code.wp_mono ?_ (first fun k a w hJ => Code.wp_mono ?_ (pass k a w hJ))
    · intro e a w h
      cases e <;> first | exact h | exact ⟨h.2.choose, h.1, h.2.choose_spec⟩
    · intro e a w h
      cases e <;> first | exact h | exact ⟨h.1, h.2.choose, h.2.choose_spec.2⟩
  · rintro t k a w ⟨rfl, hJ⟩
    refine ⟨_, hf, wp_seq (wp_skip (Code.wp_mono ?_ (pass k a w hJ)))⟩
    intro e a w h
    cases e <;> first | exact h | exact ⟨h.2.choose, h.2.choose_spec.1, h.1, h.2.choose_spec.2⟩
/-- The bytes that passing a node adds. -/
def lwid (x : Nd) : Nat := if x.kind = 1 then x.width else 0
/-- The nodes of trees with their places, the upper ones first. -/
def wl (N : Nat → Nd) : Nat → List Nat → Nat → List (Nat × Nat)
  | 0, _, _ => []
  | _ + 1, [], _ => []
  | f + 1, b :: bs, a => (a, b) :: wl N f ((N b).kids.map Prod.fst ++ bs) (a + lwid (N b))
/-- These blocks lie as they lay. -/
def KX (X : Nat → Prop) (A B : World) : Prop := A.heap.size ≤ B.heap.size ∧ ∀ k, X k → B.heap[k]? = A.heap[k]?
theorem KX.trans {X : Nat → Prop} {A B C : World} (h : KX X A B) (k : KX X B C) : KX X A C := ⟨Nat.le_trans h.1 k.1, fun d hd => (k.2 d hd).trans (h.2 d hd)⟩
def encW (x : Nat × Nat) : Array Value := #[.int .i64 (x.1 : Int), .pointer (some ⟨x.2, 0, none⟩)]
theorem sizeS_cons (N : Nat → Nd) (b : Nat) (ks : List Nat) : sizeS N (b :: ks) = (N b).size + sizeS N ks := by simp [sizeS]
theorem sizeS_app (N : Nat → Nd) (ks js : List Nat) : sizeS N (ks ++ js) = sizeS N ks + sizeS N js := by simp [sizeS]
theorem wl_step {R : Nat → Prop} {N : Nat → Nd} {B : Nat} {w : World} (h : Forest R N B w) {b : Nat} (hb : R b) (ps : List Nat) (a : Nat) : wl N (sizeS N (b :: ps)) (b :: ps) a = (a, b) :: wl N (sizeS N ((N b).kids.map Prod.fst ++ ps)) ((N b).kids.map Prod.fst ++ ps) (a + lwid (N b)) := by
  have e : sizeS N (b :: ps) = sizeS N ((N b).kids.map Prod.fst ++ ps) + 1 := by
    rw [sizeS_cons, sizeS_app, (h b hb).2.2.2.2]
    omega
  rw [e, wl]
theorem wl_nil (N : Nat → Nd) (f a : Nat) : wl N f [] a = [] := by cases f <;> rfl
theorem lwid_le {R : Nat → Prop} {N : Nat → Nd} {B : Nat} {w : World} (h : Forest R N B w) {b : Nat} (hb : R b) : lwid (N b) ≤ 524288 := by
  obtain ⟨_, h2, h3, _, h5⟩ := h b hb
  unfold lwid
  split
  · rename_i hk
    rw [h3 hk] at h5
    have : (N b).size = 1 := by rw [h5]; simp [sizeS]
    unfold NdOk at h2
    omega
  · omega

/-- The walk at its label: c: the node that comes next; pre: what was handed over. -/
def WalkJ (R : Nat → Prop) (N : Nat → Nd) (X : Nat → Prop) (J : (Nat → Prop) → List (Nat × Nat) → World → Prop) (l br D M : Nat) (xs : List (Nat × Nat)) (W : World) (k : Nat) (a : Act) (w : World) : Prop :=
  ∃ (T : Nat → Value) (c at_ : Nat) (ov : Value) (sk pre : List (Nat × Nat)), a = { tmps := #[.func (.yield l) #[] #[], .pointer (some ⟨br, 0, none⟩), T 2, .pointer (some ⟨D, 0, none⟩), .pointer (some ⟨c, 0, none⟩), T 5, T 6, T 7, T 8, T 9, T 10, T 11, T 12, T 13, T 14, T 15], defers := [] } ∧
    R c ∧ WayAt w D ov at_ ∧ OOwn w (D + 1) ov sk ∧ SkOk R N M sk ∧ (N c).size + sk.length ≤ M ∧ J (fun b => b = D ∨ ov.ownBlock = some b) pre w ∧ KX X W w ∧ pre ++ wl N (sizeS N (c :: pendL N sk.reverse)) (c :: pendL N sk.reverse) at_ = xs ∧ at_ ≤ pre.length * 524288 ∧ pre.length + sizeS N (c :: pendL N sk.reverse) = M ∧ k = sizeS N (c :: pendL N sk.reverse)
theorem walkJ_of {R : Nat → Prop} {N : Nat → Nd} {X : Nat → Prop} {J : (Nat → Prop) → List (Nat × Nat) → World → Prop} {l br D M : Nat} {xs : List (Nat × Nat)} {W w : World} {k : Nat} (L : List Value) (c at_ : Nat) (ov : Value) (sk pre : List (Nat × Nat))
    (h : L = [.func (.yield l) #[] #[], .pointer (some ⟨br, 0, none⟩), nthV L 2, .pointer (some ⟨D, 0, none⟩), .pointer (some ⟨c, 0, none⟩), nthV L 5, nthV L 6, nthV L 7, nthV L 8, nthV L 9, nthV L 10, nthV L 11, nthV L 12, nthV L 13, nthV L 14, nthV L 15])
    (h2 : R c ∧ WayAt w D ov at_ ∧ OOwn w (D + 1) ov sk ∧ SkOk R N M sk ∧ (N c).size + sk.length ≤ M ∧ J (fun b => b = D ∨ ov.ownBlock = some b) pre w ∧ KX X W w ∧ pre ++ wl N (sizeS N (c :: pendL N sk.reverse)) (c :: pendL N sk.reverse) at_ = xs ∧ at_ ≤ pre.length * 524288 ∧ pre.length + sizeS N (c :: pendL N sk.reverse) = M ∧ k = sizeS N (c :: pendL N sk.reverse)) :
    WalkJ R N X J l br D M xs W k { tmps := L.toArray, defers := [] } w := ⟨nthV L, c, at_, ov, sk, pre, by rw [← h], h2⟩
theorem way_new (w : World) : WayAt (w.alloc (.cells #[.slice none 0 0, .int .i64 0] 112)) w.heap.size (.slice none 0 0) 0 := World.alloc_heap_new w _
/-- What behind has done, as a step of the iterator. -/
theorem step_behind {D : Nat} {ov ov' : Value} {w w' : World} (ht : TK D ov.ownBlock w w') (hr : OwnRel ov.ownBlock w.heap.size ov') (hl : ∀ d, ov'.ownBlock = some d → d < w'.heap.size) : StepW (fun b => b = D ∨ ov.ownBlock = some b) (fun b => b = D ∨ ov'.ownBlock = some b) w w' :=
  ⟨ht.1, ht.2.1, ht.2.2.1, ht.2.2.2.1, fun k hk hn => ht.2.2.2.2 k hk (fun e => hn (Or.inl e)) (fun e => hn (Or.inr e.symm)), fun b hb => by
    rcases hb with rfl | hb
    · exact Or.inl (Or.inl rfl)
    · rcases hr with h | ⟨g, h, hg⟩
      · exact Or.inl (Or.inr (h.symm.trans hb))
      · have := hl b hb
        rw [h] at hb
        injection hb with hb
        subst hb
        exact Or.inr ⟨hg, this⟩⟩

set_option linter.unusedSimpArgs false in
set_option maxRecDepth 100000 in
set_option maxHeartbeats 2000000 in
theorem walk_seq (n : Nat) (hn : 1 ≤ n) (R : Nat → Prop) (N : Nat → Nd) (B br b : Nat) (w : World) (hF : Forest R N B w) (hb : R b) (hB : B ≤ w.heap.size) (hbr : br < w.heap.size) (hc : w.cell? ⟨br, 0, none⟩ = some (.pointer (some ⟨b, 0, none⟩))) :
    SeqW Fence.wide n Try.prog 43 #[.pointer (some ⟨br, 0, none⟩)] encW (KX fun k => k < B ∨ k = br) (wl N (N b).size [b] 0) w := by
  intro l J Jx W hK hsz hJ hY h0
  have hcW : W.cell? ⟨br, 0, none⟩ = some (.pointer (some ⟨b, 0, none⟩)) := (World.cell?_of_block (w := w) (a := ⟨br, 0, none⟩) (hK.2 br (Or.inr rfl))).trans hc
  have hFW : Forest R N B W := hF.kb ⟨hsz, fun k hk => hK.2 k (Or.inl hk)⟩
  obtain ⟨D, hD⟩ : ∃ D, W.heap.size = D := ⟨_, rfl⟩
  obtain ⟨M, hM⟩ : ∃ M, (N b).size = M := ⟨_, rfl⟩
  have hM4 : M ≤ 4194304 := by have := (hF b hb).2.1.2.1; omega
  obtain ⟨xs, hxs⟩ : ∃ xs, wl N M [b] 0 = xs := ⟨_, rfl⟩
  rw [hM, hxs] at hY ⊢
  rw [hD] at hY ⊢
  have HD := hide1 hD
  have HM := hide1 hM
  have HX := hide1 hxs
  have HF := hide1 hFW
  have HJ := hide1 hJ
  have HY := hide1 hY
  have H0 := hide1 h0
  have HB := hide1 hb
  have hBD : B ≤ D := by omega
  have hbrD : br < D := by omega
  clear hF hc hK hY h0 hJ hFW hb hM hxs
  refine callsIn_of_wp Try.func43 rfl trivial ?_ rfl
  simp only [Try.ntmps43, List.size_toArray, List.length_cons, List.length_nil, Nat.reduceAdd, Nat.reduceSub, Array.replicate_succ, Array.replicate_zero, List.push_toArray, List.append_toArray, List.nil_append, List.cons_append]
  refine wpIn_wide.2 (wp_scope_go 0 (WalkJ R N (fun k => k < B ∨ k = br) J l br D M xs W) rfl ?_ ?_)
  · rintro k a w1 ⟨T, c, at_, ov, sk, pre, rfl, hRc, hW1, hO1, hS1, hM1, hJ1, hK1, hX1, ha1, hl1, rfl⟩
    refine (wpIn_wide (n := n)).1 ?_
    have hF1 : Forest R N B w1 := HF.out.kb ⟨hK1.1, fun k hk => hK1.2 k (Or.inl hk)⟩
    have hstep := wl_step hF1 hRc (pendL N sk.reverse) at_
    rw [hstep] at hX1
    obtain ⟨o0, o1, f0, f1⟩ := hW1.cells
    have hDl := hW1.lt
    have hog : ∀ d, ov.ownBlock = some d → D + 1 ≤ d ∧ d < w1.heap.size := fun d hd => hO1.lt d hd
    obtain ⟨fn, tmps, assign, body, hy, hR⟩ := HY.out _ pre (at_, c) w1 hJ1 ⟨_, by rw [← hX1, List.append_assoc]; rfl⟩ (fun d hd => by
      rcases hd with rfl | hd
      · exact ⟨Nat.le_refl _, hDl⟩
      · have := hog d hd; omega)
    have HR := hide1 hR
    dsimp only [encW] at hy
    have HF1 := hide1 hF1
    have HRC := hide1 hRc
    have HW1 := hide1 hW1
    have HO1 := hide1 hO1
    have HS1 := hide1 hS1
    have HM1 := hide1 hM1
    have HK1 := hide1 hK1
    have HX1 := hide1 hX1
    have HA1 := hide1 ha1
    have HL1 := hide1 hl1
    have HOG := hide1 hog
    clear hF1 hstep hog hR hRc hW1 hO1 hS1 hM1 hJ1 hK1 hX1 ha1 hl1
    gi_wp2_with fail
    refine HR.out.mono ?_
    rintro e W3 (⟨rfl, hJ3, hK3, hs3, hT3⟩ | ⟨rfl, hx3⟩)
    · have hW3 : WayAt W3 D ov at_ := (hT3 D (Or.inl rfl)).trans HW1.out
      have hO3 : OOwn W3 (D + 1) ov sk := owns_same HO1.out (fun d hd => hT3 d (Or.inr hd))
      have hF3 : Forest R N B W3 := HF1.out.kb ⟨hs3, fun k hk => hK3.2 k (Or.inl hk)⟩
      have hKW3 := HK1.out.trans hK3
      have hla := HA1.out
      have hll := HL1.out
      rw [sizeS_cons] at hll
      have hsc := (hF3 c HRC.out).2.1.1
      have hat : at_ ≤ 2305843009213693952 := by omega
      have HBH := hide1 (behind_is R N B M D (D + 1) c ov at_ sk W3 hF3 hW3 hO3 (by omega) hBD hW3.lt HS1.out HRC.out HM1.out hM4 hat)
      have HF3 := hide1 hF3
      have HJ3 := hide1 hJ3
      have HKW3 := hide1 hKW3
      clear hW3 hO3 hF3 hJ3 hK3 hs3 hT3 hKW3 hla hll hsc hat
      gi_wp2_with fail
      refine ⟨trivial, ?_⟩
      refine (callsIn_wide.2 HBH.out).mono ?_
      intro e w4 hv
      obtain ⟨ps, hps⟩ : ∃ ps, (N c).kids.map Prod.fst ++ pendL N sk.reverse = ps := ⟨_, rfl⟩
      rw [hps] at hv
      have hx := HX1.out
      rw [hps] at hx
      have hll := HL1.out
      have hsz5 : sizeS N (c :: pendL N sk.reverse) = 1 + sizeS N ps := by rw [sizeS_cons, (HF3.out c HRC.out).2.2.2.2, ← hps, sizeS_app]; omega
      have hkb : ∀ {w5 : World}, TK D ov.ownBlock W3 w5 → KX (fun k => k < B ∨ k = br) W3 w5 := fun ht => ⟨ht.2.2.2.1, fun k hk => ht.2.2.2.2 k (by have := HKW3.out.1; omega) (by omega) (fun e => by have := (HOG.out k e.symm).1; omega)⟩
      cases ps with
      | nil =>
        obtain ⟨rfl, ov4, sk4, hW4, hO4, hS4, hP4, hR4, hT4⟩ := hv
        have HX4 := hide1 (show pre ++ [(at_, c)] = xs by rw [wl_nil] at hx; exact hx)
        have HJ4 := hide1 (HJ.out _ _ _ _ _ HJ3.out (step_behind hT4 hR4 (fun d hd => (hO4.lt d hd).2)))
        have HO4 := hide1 hO4
        have HD4 := hide1 hW4.lt
        clear hW4 hO4 hS4 hP4 hR4 hT4 hx hll hsz5 hkb hps
        gi_wp2_with fail
        simp only [jumps]
        go_end0
        refine ⟨⟨_, rfl⟩, Or.inl ⟨_, by rw [← HX4.out]; exact HJ4.out, fun d hd => ?_⟩⟩
        rcases hd with rfl | hd
        · exact ⟨Nat.le_refl _, HD4.out⟩
        · have := HO4.out.lt d hd
          omega
      | cons k rest =>
        obtain ⟨rfl, hRk, ov4, sk4, hW4, hO4, hS4, hP4, hR4, hT4, hM4'⟩ := hv
        have HJ4 := hide1 (HJ.out _ _ _ _ _ HJ3.out (step_behind hT4 hR4 (fun d hd => (hO4.lt d hd).2)))
        have hK4 := HKW3.out.trans (hkb hT4)
        have HG : Hid (∃ k', k' < sizeS N (c :: pendL N sk.reverse) ∧ R k ∧ WayAt w4 D ov4 (at_ + if (N c).kind = 1 then (N c).width else 0) ∧ OOwn w4 (D + 1) ov4 sk4 ∧ SkOk R N M sk4 ∧ (N k).size + sk4.length ≤ M ∧ J (fun b => b = D ∨ ov4.ownBlock = some b) (pre ++ [(at_, c)]) w4 ∧ KX (fun k => k < B ∨ k = br) W w4 ∧ (pre ++ [(at_, c)]) ++ wl N (sizeS N (k :: pendL N sk4.reverse)) (k :: pendL N sk4.reverse) (at_ + if (N c).kind = 1 then (N c).width else 0) = xs ∧ (at_ + if (N c).kind = 1 then (N c).width else 0) ≤ (pre ++ [(at_, c)]).length * 524288 ∧ (pre ++ [(at_, c)]).length + sizeS N (k :: pendL N sk4.reverse) = M ∧ k' = sizeS N (k :: pendL N sk4.reverse)) := by
          refine ⟨_, ?_, hRk, hW4, hO4, hS4, hM4', HJ4.out, hK4, ?_, ?_, ?_, rfl⟩
          · rw [hP4, hsz5]
            omega
          · rw [hP4, List.append_assoc]
            exact hx
          · have h1 := lwid_le HF3.out HRC.out
            unfold lwid at h1
            have h2 := HA1.out
            rw [List.length_append, Nat.add_mul]
            show _ ≤ _ + 1 * 524288
            omega
          · rw [hP4, List.length_append]
            show pre.length + 1 + _ = M
            omega
        clear hW4 hO4 hS4 hP4 hR4 hT4 hx hll hsz5 hkb hps hRk hK4 hM4'
        gi_wp2_with fail
        obtain ⟨k', hk', hg⟩ := HG.out
        refine wpIn_goto (And.intro (a := (0 : Nat) = 0) (b := ∃ k', k' < sizeS N (c :: pendL N sk.reverse) ∧ WalkJ R N (fun k => k < B ∨ k = br) J l br D M xs W k' _ w4) rfl ⟨k', hk', ?_⟩)
        exact walkJ_of _ k _ ov4 sk4 (pre ++ [(at_, c)]) (by kernel_rfl) hg
    · have HX3 := hide1 hx3
      gi_wp2_with fail
      simp only [jumps]
      refine bodyPost_ret (results_none rfl _ _ _) rfl ?_
      refine ⟨⟨_, rfl⟩, Or.inr ⟨_, ⟨_, by rw [← HX1.out, List.append_assoc]; rfl⟩, HX3.out⟩⟩
  · intro hrest
    refine wp_seq ?_
    refine Code.wp_mono (Q := Exit.then (fun a w' => a = { tmps := #[.func (.yield l) #[] #[], .pointer (some ⟨br, 0, none⟩), undef, .pointer (some ⟨D, 0, none⟩), undef, undef, undef, undef, undef, undef, undef, undef, undef, undef, undef, undef], defers := [] } ∧ w' = W.alloc (.cells #[.slice none 0 0, .int .i64 0] 112)) (fun _ _ _ => False)) (fun e a w' h => ?_) ?_
    · cases e with
      | normal =>
        obtain ⟨rfl, rfl⟩ := h
        refine wp_seq ?_
        refine Code.wp_mono (Q := Exit.then (fun a w' => ∃ k, WalkJ R N (fun k => k < B ∨ k = br) J l br D M xs W k a w') (fun _ _ _ => False)) (fun e a w' h => ?_) ?_
        · cases e with
          | normal =>
            obtain ⟨k, h⟩ := h
            exact wp_seq (wp_label (hrest _ _ _ h))
          | _ => exact h.elim
        · have hcA : (W.alloc (.cells #[.slice none 0 0, .int .i64 0] 112)).cell? ⟨br, 0, none⟩ = some (.pointer (some ⟨b, 0, none⟩)) := (cell_alloc_old W _ (by omega)).trans hcW
          have hkA : Kept W (W.alloc (.cells #[.slice none 0 0, .int .i64 0] 112)) := (Kept.refl W).alloc _ _
          have hwA := way_new W
          rw [HD.out] at hwA
          have hsA : (W.alloc (.cells #[.slice none 0 0, .int .i64 0] 112)).heap.size = D + 1 := by rw [← HD.out]; simp
          have HKA := hide1 hkA
          have HWA := hide1 hwA
          have HSA := hide1 hsA
          generalize W.alloc (.cells #[.slice none 0 0, .int .i64 0] 112) = WA at *
          clear hkA hwA hsA hrest
          go_wp2_with fail
          refine ⟨_, walkJ_of _ b 0 (.slice none 0 0) [] [] (by kernel_rfl) ⟨HB.out, HWA.out, World.ownsRow_nil _ _ _ _, fun i q hq => by simp at hq, by rw [HM.out]; exact Nat.le_refl _, ?_, ⟨HKA.out.size, fun k hk => HKA.out.2.2.2.2 k (by omega)⟩, ?_, Nat.zero_le _, ?_, rfl⟩⟩
          · refine HJ.out _ _ _ _ _ H0.out ⟨HKA.out.1, HKA.out.2.1, HKA.out.2.2.1, HKA.out.size, fun k hk _ => HKA.out.2.2.2.2 k hk, fun d hd => ?_⟩
            rcases hd with rfl | hd
            · exact Or.inr ⟨by rw [HD.out]; exact Nat.le_refl _, by rw [HSA.out]; exact Nat.lt_succ_self _⟩
            · cases hd
          · have e : sizeS N (b :: pendL N ([] : List (Nat × Nat)).reverse) = M := by rw [sizeS_cons, HM.out]; rfl
            rw [e]
            exact HX.out
          · have e : sizeS N (b :: pendL N ([] : List (Nat × Nat)).reverse) = M := by rw [sizeS_cons, HM.out]; rfl
            rw [e]
            exact Nat.zero_add M
      | _ => exact h.elim
    · rw [← HD.out]
      go_wp2_with fail
      exact ⟨by rw [HD.out], trivial⟩

end Tr
end Ex
end Go.Proofs.Yteckbpmliahhhaa
