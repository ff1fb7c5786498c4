import Derived.Test.YteckbpmliahhhaaMTrR2
namespace Go.Proofs.Yteckbpmliahhhaa
open Go.RowKit
namespace Ex
namespace Tr

theorem wl_congr {R : Nat → Prop} {M M' : Nat → Nd} (hR : ∀ b, R b → ∀ q ∈ (M b).kids, R q.1) (he : ∀ b, R b → M' b = M b) : ∀ (f : Nat) (ps : List Nat) (a : Nat), (∀ p ∈ ps, R p) → wl M' f ps a = wl M f ps a
  | 0, _, _, _ => rfl
  | _ + 1, [], _, _ => rfl
  | f + 1, b :: ps, a, h => by
    have hb := h b List.mem_cons_self
    simp only [wl, he b hb]
    rw [wl_congr hR he f _ _ (fun p hp => by
      rcases List.mem_append.1 hp with hp | hp
      · obtain ⟨q, hq, rfl⟩ := List.mem_map.1 hp
        exact hR b hb q hq
      · exact h p (List.mem_cons_of_mem _ hp))]
theorem sizeS_congr {M M' : Nat → Nd} : ∀ (ks : List Nat), (∀ b ∈ ks, M' b = M b) → sizeS M' ks = sizeS M ks
  | [], _ => rfl
  | b :: ks, h => by
    have h1 := sizeS_congr (M := M) (M' := M') ks (fun d hd => h d (List.mem_cons_of_mem _ hd))
    simp only [sizeS, List.map_cons, List.sum_cons, h b List.mem_cons_self] at h1 ⊢
    omega
theorem rowsL_congr {R : Nat → Prop} {M M' : Nat → Nd} (hR : ∀ b, R b → ∀ q ∈ (M b).kids, R q.1) (he : ∀ b, R b → M' b = M b) {ps : List Nat} (h : ∀ p ∈ ps, R p) : rowsL M' ps = rowsL M ps := by
  unfold rowsL
  rw [sizeS_congr ps (fun b hb => he b (h b hb)), wl_congr hR he _ _ _ h]
  refine List.map_congr_left fun q hq => ?_
  rw [he q.2 (wl_mem hR _ _ _ h q hq)]
/-- What holds of a node among its like. -/
def FacN (M : Nat → Nd) (R : Nat → Prop) (b : Nat) : Prop := NdOk (M b) ∧ ((M b).kind = 1 → (M b).kids = []) ∧ (∀ q ∈ (M b).kids, R q.1) ∧ (M b).size = 1 + sizeS M ((M b).kids.map Prod.fst)
theorem Same.congr {R : Nat → Prop} {N M M' : Nat → Nd} (hR : ∀ b, R b → ∀ q ∈ (M b).kids, R q.1) (he : ∀ b, R b → M' b = M b) {b b' : Nat} (hb : R b') (h : Same N M b b') : Same N M' b b' := by
  unfold Same at h ⊢
  rw [rowsL_congr hR he (ps := [b']) (fun p hp => by rw [List.mem_singleton.1 hp]; exact hb), he b' hb]
  exact h
theorem Sames.congr {R : Nat → Prop} {N M M' : Nat → Nd} (hR : ∀ b, R b → ∀ q ∈ (M b).kids, R q.1) (he : ∀ b, R b → M' b = M b) : ∀ {ps ps' : List Nat}, (∀ p ∈ ps', R p) → Sames N M ps ps' → Sames N M' ps ps'
  | [], [], _, _ => trivial
  | _ :: _, b' :: _, hp, h => ⟨h.1.congr hR he (hp b' List.mem_cons_self), Sames.congr hR he (fun p hp' => hp p (List.mem_cons_of_mem _ hp')) h.2⟩
  | [], _ :: _, _, h => h.elim
  | _ :: _, [], _, h => h.elim
/-- One node more among its like. -/
theorem FacN.add {M : Nat → Nd} {R : Nat → Prop} {c : Nat} {Y : Nd} (hc : ¬ R c) (h : ∀ b, R b → FacN M R b) (hY : NdOk Y ∧ (Y.kind = 1 → Y.kids = []) ∧ (∀ q ∈ Y.kids, R q.1) ∧ Y.size = 1 + sizeS M (Y.kids.map Prod.fst)) :
    ∀ b, (R b ∨ b = c) → FacN (fun q => if q = c then Y else M q) (fun q => R q ∨ q = c) b := by
  have he : ∀ b, R b → (if b = c then Y else M b) = M b := fun b hb => if_neg (fun (e : b = c) => hc (by rw [← e]; exact hb))
  have hs : ∀ (l : List (Nat × Nat)), (∀ q ∈ l, R q.1) → sizeS (fun q => if q = c then Y else M q) (l.map Prod.fst) = sizeS M (l.map Prod.fst) := fun l hl => sizeS_congr _ (fun b hb => by
    obtain ⟨q, hq, rfl⟩ := List.mem_map.1 hb
    exact he _ (hl q hq))
  rintro b (hb | rfl)
  · obtain ⟨h1, h2, h3, h4⟩ := h b hb
    unfold FacN
    simp only [he b hb]
    exact ⟨h1, h2, fun q hq => Or.inl (h3 q hq), by rw [hs _ h3]; exact h4⟩
  · obtain ⟨h1, h2, h3, h4⟩ := hY
    unfold FacN
    simp only [if_true]
    exact ⟨h1, h2, fun q hq => Or.inl (h3 q hq), by rw [hs _ h3]; exact h4⟩
theorem rowsL_one {M : Nat → Nd} {c : Nat} (h : (M c).size = 1 + sizeS M ((M c).kids.map Prod.fst)) : rowsL M [c] = rowL (noId (M c)) :: rowsL M ((M c).kids.map Prod.fst) := by
  unfold rowsL
  have e : sizeS M [c] = sizeS M ((M c).kids.map Prod.fst) + 1 := by simp only [sizeS, List.map_cons, List.map_nil, List.sum_cons, List.sum_nil] at h ⊢; omega
  rw [e, wl, List.map_cons, List.append_nil, wl_rows M _ _ (0 + lwid (M c)) 0]
/-- A leaf made anew. -/
theorem same_leaf {N M : Nat → Nd} {b c s m s' m' : Nat} {l0 l1 l2 l3 l3' : Int} (hb : N b = leafN s m l0 l1 l2 l3) (hc : M c = leafN s' m' l0 l1 l2 l3') : Same N M b c := by
  have h1 : rowsL N [b] = rowL (noId (N b)) :: rowsL N ((N b).kids.map Prod.fst) := rowsL_one (by rw [hb]; rfl)
  have h2 : rowsL M [c] = rowL (noId (M c)) :: rowsL M ((M c).kids.map Prod.fst) := rowsL_one (by rw [hc]; rfl)
  refine ⟨?_, ?_, ?_, ?_, ?_⟩
  · rw [h1, h2, hb, hc]
    rfl
  · rw [hb, hc]; rfl
  · rw [hb, hc]; rfl
  · rw [hb, hc]; rfl
  · rw [hb, hc]; rfl
/-- A node made anew over children made anew. -/
theorem same_make {N M : Nat → Nd} {b c s m s' m' : Nat} {kd n : Int} {ks ks' : List Nat} (hb : N b = makeN N s m kd n ks) (hc : M c = makeN M s' m' kd n ks') (hr : rowsL N ks = rowsL M ks') (hS : Sames N M ks ks') : Same N M b c := by
  have h1 : rowsL N [b] = rowL (noId (N b)) :: rowsL N ((N b).kids.map Prod.fst) := rowsL_one (by rw [hb]; show 1 + sizeS N ks = 1 + sizeS N ((kidG N 0 ks).map Prod.fst); rw [kidG_fst])
  have h2 : rowsL M [c] = rowL (noId (M c)) :: rowsL M ((M c).kids.map Prod.fst) := rowsL_one (by rw [hc]; show 1 + sizeS M ks' = 1 + sizeS M ((kidG M 0 ks').map Prod.fst); rw [kidG_fst])
  have e1 : (N b).kids.map Prod.fst = ks := by rw [hb]; exact kidG_fst N ks 0
  have e2 : (M c).kids.map Prod.fst = ks' := by rw [hc]; exact kidG_fst M ks' 0
  obtain ⟨g1, g2, g3, g4⟩ := hS.sums
  refine ⟨?_, ?_, ?_, ?_, ?_⟩
  · rw [h1, h2, e1, e2, hr]
    congr 1
    rw [hb, hc]
    simp only [rowL, noId, makeN, kidG_len, hS.len]
  · rw [hb, hc]; exact g2
  · rw [hb, hc]; exact g3
  · rw [hb, hc]; show 1 + sizeS N ks = 1 + sizeS M ks'; rw [g1]
  · rw [hb, hc]; exact g4 _
/-- While a tree is made anew: k rows are left. -/
def TallI (N : Nat → Nd) (x n base s : Nat) (w0 : World) (k : Nat) (vS : Value) (w : World) : Prop :=
  ∃ (V : Nat → Prop) (M : Nat → Nd) (R : Nat → Prop) (m : Nat) (Sx : List Nat), StoreAt w s m ∧ m + k ≤ n ∧ POwn w base vS Sx ∧ (∀ q, V q → base ≤ q ∧ q < w.heap.size ∧ vS.ownBlock ≠ some q) ∧ base ≤ w.heap.size ∧ (∀ b, R b → NodeV V w b (M b) ∧ FacN M R b ∧ (M b).st = s) ∧ (∀ p ∈ Sx, R p) ∧ Sames N M (pendI N k [x]) Sx.reverse ∧ KeptBut s w0 w

end Tr
end Ex
end Go.Proofs.Yteckbpmliahhhaa
namespace Go.Proofs.Yteckbpmliahhhaa
open Go.RowKit
attribute [local go_sem] Oper.semAt_some
namespace Ex
namespace Tr

theorem POwn.pop {w : World} {base g cap L : Nat} {A : List Nat} {b : Nat} (hA : A.length = L) (h : POwn w base (.slice (some ⟨g, 0, none⟩) (L + 1) cap) (A ++ [b])) : POwn w base (.slice (some ⟨g, 0, none⟩) L cap) A := by
  subst hA
  refine ⟨by simp [flatPt], Or.inr ?_⟩
  rcases h.2 with ⟨e, _⟩ | ⟨g', cap', cur, e, h1, h2, h3, h4, h5, h6⟩
  · cases e
  · injection e with e1 e2 e3
    injection e1 with e1
    injection e1 with e1
    subst e1 e3
    refine ⟨g, cap, cur, rfl, h1, h2, by rw [List.length_append] at h3; simp at h3; omega, h4, h5, ?_⟩
    have h7 := congrArg (List.take A.length) h6
    rw [List.take_take, flatPt_app, List.length_append, List.length_singleton, Nat.mul_one, Nat.min_eq_left (by omega)] at h7
    rw [Nat.mul_one, h7]
    have e9 : (flatPt A).length = A.length := by simp [flatPt]
    rw [← e9, List.take_left']
    rfl
theorem POwn.last {w : World} {base g cap L n : Nat} {A : List Nat} {b : Nat} (hA : A.length = L) (h : POwn w base (.slice (some ⟨g, 0, none⟩) n cap) (A ++ [b])) : w.cell? ⟨g, L, none⟩ = some (.pointer (some ⟨b, 0, none⟩)) := h.at' (by rw [List.getElem?_append_right (by omega), hA]; simp)
theorem POwn.form {w : World} {base : Nat} {v : Value} {P : List Nat} (h : POwn w base v P) : ∃ a c, v = .slice a P.length c := by
  rcases h.2 with ⟨rfl, h0⟩ | ⟨g, cap, cur, rfl, _⟩
  · exact ⟨none, 0, by rw [h0]⟩
  · exact ⟨_, _, rfl⟩
/-- A tree is put on. -/
theorem TallI.put {N M : Nat → Nd} {V R : Nat → Prop} {x n base s k m a1 a2 b c : Nat} {t S2 : List Nat} {vS vS' : Value} {w0 w w' : World} {Y : Nd}
    (hS : StoreAt w' s (m + 1)) (hm : m + 1 + k ≤ n) (hV : ∀ q, V q → base ≤ q ∧ q < w.heap.size ∧ vS.ownBlock ≠ some q) (hvl : ∀ g, vS.ownBlock = some g → g < w.heap.size) (hk : KX V w w') (hR : ∀ b, R b → NodeV V w b (M b) ∧ FacN M R b ∧ (M b).st = s)
    (o1 : w.heap.size ≤ a1) (o2 : a1 ≤ a2) (o3 : a2 ≤ w'.heap.size) (hb0 : base ≤ w.heap.size) (hY : NodeV (fun q => a1 ≤ q ∧ q < a2) w' c Y) (hYf : NdOk Y ∧ (Y.kind = 1 → Y.kids = []) ∧ (∀ q ∈ Y.kids, R q.1) ∧ Y.size = 1 + sizeS M (Y.kids.map Prod.fst)) (hYs : Y.st = s)
    (hP : POwn w' base vS' (S2 ++ [c])) (hrel : OwnRel vS.ownBlock a2 vS') (hS2 : ∀ p ∈ S2, R p) (hSame : ∀ M', (∀ q, R q → M' q = M q) → M' c = Y → Same N M' b c) (hSt : Sames N M t S2.reverse) (hpend : pendI N k [x] = b :: t) (hKB : KeptBut s w0 w') : TallI N x n base s w0 k vS' w' := by
  have hcR : ¬ R c := fun h => by have := (hV c (hR c h).1.1).2.1; have := hY.1; omega
  have he : ∀ q, R q → (if q = c then Y else M q) = M q := fun q hq => if_neg (fun (e : q = c) => hcR (by rw [← e]; exact hq))
  have hRk : ∀ q, R q → ∀ p ∈ (M q).kids, R p.1 := fun q hq => (hR q hq).2.1.2.2.1
  refine ⟨fun q => V q ∨ (a1 ≤ q ∧ q < a2), fun q => if q = c then Y else M q, fun q => R q ∨ q = c, m + 1, S2 ++ [c], hS, hm, hP, ?_, by omega, ?_, ?_, ?_, hKB⟩
  · rintro q (hq | hq)
    · obtain ⟨q1, q2, q3⟩ := hV q hq
      refine ⟨q1, Nat.lt_of_lt_of_le q2 hk.1, fun e => ?_⟩
      rcases hrel with h | ⟨g, h, h'⟩
      · exact q3 (by rw [← h]; exact e)
      · rw [h] at e
        injection e with e
        omega
    · refine ⟨by omega, by omega, fun e => ?_⟩
      rcases hrel with h | ⟨g, h, h'⟩
      · have := hvl q (by rw [← h]; exact e)
        omega
      · rw [h] at e
        injection e with e
        omega
  · have hfac := FacN.add hcR (fun b hb => (hR b hb).2.1) hYf
    intro q hq
    refine ⟨?_, hfac q hq, ?_⟩
    · rcases hq with hq | hq
      · simp only [he q hq]
        exact ((hR q hq).1.kx hk).more (fun p hp => Or.inl hp)
      · subst hq
        simp only [if_true]
        exact hY.more (fun p hp => Or.inr hp)
    · rcases hq with hq | hq
      · simp only [he q hq]
        exact (hR q hq).2.2
      · subst hq
        simp only [if_true]
        exact hYs
  · intro p hp
    rcases List.mem_append.1 hp with hp | hp
    · exact Or.inl (hS2 p hp)
    · exact Or.inr (List.mem_singleton.1 hp)
  · rw [hpend, List.reverse_append]
    refine ⟨hSame _ he (if_pos rfl), ?_⟩
    exact Sames.congr hRk he (fun p hp => hS2 p (List.mem_reverse.1 hp)) hSt

end Tr
end Ex
end Go.Proofs.Yteckbpmliahhhaa
