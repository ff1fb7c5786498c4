import Derived.Test.YtemfnbccjbojfaaTrR4
namespace Go.Proofs.Ytemfnbccjbojfaa
open Go.RowKit
namespace Ex
namespace Tr

theorem wl_congr {R : Nat → Prop} {M M' : Nat → Nd} (hR : ∀ b, R b → ∀ q ∈ (M b).kids, R q.1) (he : ∀ b, R b → M' b = M b) : ∀ (f : Nat) (ps : List Nat) (a : Nat), (∀ p ∈ ps, R p) → wl M' f ps a = wl M f ps a
  | 0, _, _, _ => rfl
  | _ + 1, [], _, _ => rfl
  | f + 1, b :: ps, a, h => by
    have hb := h b List.mem_cons_self
    simp only [wl, he b hb]
    rw [wl_congr hR he f _ _ (fun p hp => by
      rcases List.mem_append.1 hp with hp | hp
      · obtain ⟨q, hq, rfl⟩ := List.mem_map.1 hp
        exact hR b hb q hq
      · exact h p (List.mem_cons_of_mem _ hp))]
theorem sizeS_congr {M M' : Nat → Nd} : ∀ (ks : List Nat), (∀ b ∈ ks, M' b = M b) → sizeS M' ks = sizeS M ks
  | [], _ => rfl
  | b :: ks, h => by
    have h1 := sizeS_congr (M := M) (M' := M') ks (fun d hd => h d (List.mem_cons_of_mem _ hd))
    simp only [sizeS, List.map_cons, List.sum_cons, h b List.mem_cons_self] at h1 ⊢
    omega
theorem rowsL_congr {R : Nat → Prop} {M M' : Nat → Nd} (hR : ∀ b, R b → ∀ q ∈ (M b).kids, R q.1) (he : ∀ b, R b → M' b = M b) {ps : List Nat} (h : ∀ p ∈ ps, R p) : rowsL M' ps = rowsL M ps := by
  unfold rowsL
  rw [sizeS_congr ps (fun b hb => he b (h b hb)), wl_congr hR he _ _ _ h]
  refine List.map_congr_left fun q hq => ?_
  rw [he q.2 (wl_mem hR _ _ _ h q hq)]
/-- What holds of a node among its like. -/
def FacN (M : Nat → Nd) (R : Nat → Prop) (b : Nat) : Prop := NdOk (M b) ∧ ((M b).kind = 1 → (M b).kids = []) ∧ (∀ q ∈ (M b).kids, R q.1) ∧ (M b).size = 1 + sizeS M ((M b).kids.map Prod.fst)
theorem Same.congr {R : Nat → Prop} {N M M' : Nat → Nd} (hR : ∀ b, R b → ∀ q ∈ (M b).kids, R q.1) (he : ∀ b, R b → M' b = M b) {b b' : Nat} (hb : R b') (h : Same N M b b') : Same N M' b b' := by
  unfold Same at h ⊢
  rw [rowsL_congr hR he (ps := [b']) (fun p hp => by rw [List.mem_singleton.1 hp]; exact hb), he b' hb]
  exact h
theorem Sames.congr {R : Nat → Prop} {N M M' : Nat → Nd} (hR : ∀ b, R b → ∀ q ∈ (M b).kids, R q.1) (he : ∀ b, R b → M' b = M b) : ∀ {ps ps' : List Nat}, (∀ p ∈ ps', R p) → Sames N M ps ps' → Sames N M' ps ps'
  | [], [], _, _ => trivial
  | _ :: _, b' :: _, hp, h => ⟨h.1.congr hR he (hp b' List.mem_cons_self), Sames.congr hR he (fun p hp' => hp p (List.mem_cons_of_mem _ hp')) h.2⟩
  | [], _ :: _, _, h => h.elim
  | _ :: _, [], _, h => h.elim
/-- One node more among its like. -/
theorem FacN.add {M : Nat → Nd} {R : Nat → Prop} {c : Nat} {Y : Nd} (hc : ¬ R c) (h : ∀ b, R b → FacN M R b) (hY : NdOk Y ∧ (Y.kind = 1 → Y.kids = []) ∧ (∀ q ∈ Y.kids, R q.1) ∧ Y.size = 1 + sizeS M (Y.kids.map Prod.fst)) :
    ∀ b, (R b ∨ b = c) → FacN (fun q => if q = c then Y else M q) (fun q => R q ∨ q = c) b := by
  have he : ∀ b, R b → (if b = c then Y else M b) = M b := fun b hb => if_neg (fun (e : b = c) => hc (by rw [← e]; exact hb))
  have hs : ∀ (l : List (Nat × Nat)), (∀ q ∈ l, R q.1) → sizeS (fun q => if q = c then Y else M q) (l.map Prod.fst) = sizeS M (l.map Prod.fst) := fun l hl => sizeS_congr _ (fun b hb => by
    obtain ⟨q, hq, rfl⟩ := List.mem_map.1 hb
    exact he _ (hl q hq))
  rintro b (hb | rfl)
  · obtain ⟨h1, h2, h3, h4⟩ := h b hb
    unfold FacN
    simp only [he b hb]
    exact ⟨h1, h2, fun q hq => Or.inl (h3 q hq), by rw [hs _ h3]; exact h4⟩
  · obtain ⟨h1, h2, h3, h4⟩ := hY
    unfold FacN
    simp only [if_true]
    exact ⟨h1, h2, fun q hq => Or.inl (h3 q hq), by rw [hs _ h3]; exact h4⟩
theorem rowsL_one {M : Nat → Nd} {c : Nat} (h : (M c).size = 1 + sizeS M ((M c).kids.map Prod.fst)) : rowsL M [c] = rowL (noId (M c)) :: rowsL M ((M c).kids.map Prod.fst) := by
  unfold rowsL
  have e : sizeS M [c] = sizeS M ((M c).kids.map Prod.fst) + 1 := by simp only [sizeS, List.map_cons, List.map_nil, List.sum_cons, List.sum_nil] at h ⊢; omega
  rw [e, wl, List.map_cons, List.append_nil, wl_rows M _ _ (0 + lwid (M c)) 0]
/-- A leaf made anew. -/
theorem same_leaf {N M : Nat → Nd} {b c s m s' m' : Nat} {l0 l1 l2 l3 l3' : Int} (hb : N b = leafN s m l0 l1 l2 l3) (hc : M c = leafN s' m' l0 l1 l2 l3') : Same N M b c := by
  have h1 : rowsL N [b] = rowL (noId (N b)) :: rowsL N ((N b).kids.map Prod.fst) := rowsL_one (by rw [hb]; rfl)
  have h2 : rowsL M [c] = rowL (noId (M c)) :: rowsL M ((M c).kids.map Prod.fst) := rowsL_one (by rw [hc]; rfl)
  refine ⟨?_, ?_, ?_, ?_, ?_⟩
  · rw [h1, h2, hb, hc]
    rfl
  · rw [hb, hc]; rfl
  · rw [hb, hc]; rfl
  · rw [hb, hc]; rfl
  · rw [hb, hc]; rfl
/-- A node made anew over children made anew. -/
theorem same_make {N M : Nat → Nd} {b c s m s' m' : Nat} {kd n : Int} {ks ks' : List Nat} (hb : N b = makeN N s m kd n ks) (hc : M c = makeN M s' m' kd n ks') (hr : rowsL N ks = rowsL M ks') (hS : Sames N M ks ks') : Same N M b c := by
  have h1 : rowsL N [b] = rowL (noId (N b)) :: rowsL N ((N b).kids.map Prod.fst) := rowsL_one (by rw [hb]; show 1 + sizeS N ks = 1 + sizeS N ((kidG N 0 ks).map Prod.fst); rw [kidG_fst])
  have h2 : rowsL M [c] = rowL (noId (M c)) :: rowsL M ((M c).kids.map Prod.fst) := rowsL_one (by rw [hc]; show 1 + sizeS M ks' = 1 + sizeS M ((kidG M 0 ks').map Prod.fst); rw [kidG_fst])
  have e1 : (N b).kids.map Prod.fst = ks := by rw [hb]; exact kidG_fst N ks 0
  have e2 : (M c).kids.map Prod.fst = ks' := by rw [hc]; exact kidG_fst M ks' 0
  obtain ⟨g1, g2, g3, g4⟩ := hS.sums
  refine ⟨?_, ?_, ?_, ?_, ?_⟩
  · rw [h1, h2, e1, e2, hr]
    congr 1
    rw [hb, hc]
    simp only [rowL, noId, makeN, kidG_len, hS.len]
  · rw [hb, hc]; exact g2
  · rw [hb, hc]; exact g3
  · rw [hb, hc]; show 1 + sizeS N ks = 1 + sizeS M ks'; rw [g1]
  · rw [hb, hc]; exact g4 _
/-- While a tree is made anew: k rows are left. -/
def TallI (N : Nat → Nd) (x n base s : Nat) (w0 : World) (k : Nat) (vS : Value) (w : World) : Prop :=
  ∃ (V : Nat → Prop) (M : Nat → Nd) (R : Nat → Prop) (m : Nat) (Sx : List Nat), StoreAt w s m ∧ m + k ≤ n ∧ POwn w base vS Sx ∧ (∀ q, V q → base ≤ q ∧ q < w.heap.size ∧ vS.ownBlock ≠ some q) ∧ base ≤ w.heap.size ∧ (∀ b, R b → NodeV V w b (M b) ∧ FacN M R b ∧ (M b).st = s) ∧ (∀ p ∈ Sx, R p) ∧ Sames N M (pendI N k [x]) Sx.reverse ∧ KeptBut s w0 w

end Tr
end Ex
end Go.Proofs.Ytemfnbccjbojfaa
