import Derived.Test.YteckbpmliahhhaaMTrR5
namespace Go.Proofs.Yteckbpmliahhhaa
open Go.RowKit
attribute [local go_sem] Oper.semAt_some
namespace Ex
namespace Tr

theorem wl_len_eq {R : Nat → Prop} {N : Nat → Nd} {B : Nat} {w : World} (hF : Forest R N B w) : ∀ (f : Nat) (ps : List Nat) (a : Nat), (∀ p ∈ ps, R p) → sizeS N ps = f → (wl N f ps a).length = f
  | 0, _, _, _, _ => rfl
  | f + 1, [], _, _, h => by simp [sizeS] at h
  | f + 1, b :: ps, a, hR, h => by
    have hb := hR b List.mem_cons_self
    have hsz := (hF b hb).2.2.2.2
    have h1 := wl_len_eq hF f ((N b).kids.map Prod.fst ++ ps) (a + lwid (N b)) (fun p hp => by
      rcases List.mem_append.1 hp with hp | hp
      · obtain ⟨q, hq, rfl⟩ := List.mem_map.1 hp
        exact (hF b hb).2.2.2.1 q hq
      · exact hR p (List.mem_cons_of_mem _ hp)) (by rw [sizeS_cons] at h; rw [sizeS_app]; omega)
    simp only [wl, List.length_cons, h1]
theorem pendI_size {R : Nat → Prop} {N : Nat → Nd} {B : Nat} {w : World} (hF : Forest R N B w) : ∀ (k : Nat) (ps : List Nat), (∀ p ∈ ps, R p) → k ≤ sizeS N ps → sizeS N (pendI N k ps) + k = sizeS N ps ∧ ∀ p ∈ pendI N k ps, R p
  | 0, ps, hR, _ => ⟨rfl, hR⟩
  | k + 1, [], _, h => by simp [sizeS] at h
  | k + 1, b :: ps, hR, h => by
    have hb := hR b List.mem_cons_self
    have hsz := (hF b hb).2.2.2.2
    obtain ⟨h1, h2⟩ := pendI_size hF k ((N b).kids.map Prod.fst ++ ps) (fun p hp => by
      rcases List.mem_append.1 hp with hp | hp
      · obtain ⟨q, hq, rfl⟩ := List.mem_map.1 hp
        exact (hF b hb).2.2.2.1 q hq
      · exact hR p (List.mem_cons_of_mem _ hp)) (by rw [sizeS_cons] at h; rw [sizeS_app]; omega)
    refine ⟨?_, h2⟩
    show sizeS N (pendI N k ((N b).kids.map Prod.fst ++ ps)) + (k + 1) = _
    rw [sizeS_app] at h1
    rw [sizeS_cons]
    omega
theorem POwn.ptrsN {w : World} {base : Nat} {v : Value} {l : List Nat} (h : POwn w base v l) (hl : l.length ≤ 4194304) : PtrsN w v l := by
  rcases h.2 with ⟨rfl, h0⟩ | ⟨g, cap, cur, rfl, hb, hg, hc, _, _, hx⟩
  · have : l = [] := List.length_eq_zero_iff.1 h0
    subst this
    exact ⟨none, 0, rfl, by simp, fun i b hb => by simp at hb⟩
  · exact ⟨_, cap, rfl, by omega, fun i b hib => ⟨g, 0, rfl, by rw [Nat.zero_add]; exact row_cells hg hx _ _ (flatPt_at hib)⟩⟩
theorem own_len (a : Option Addr) (n n' c : Nat) : (Value.slice a n c).ownBlock = (Value.slice a n' c).ownBlock := by cases a <;> rfl
theorem drop_rev {l : List Nat} {q b : Nat} (h : l[q]? = some b) : (l.drop q).reverse = (l.drop (q + 1)).reverse ++ [b] := by
  obtain ⟨hq, hb⟩ := List.getElem?_eq_some_iff.1 h
  rw [List.drop_eq_getElem_cons hq, List.reverse_cons, hb]
theorem made_leaf {N : Nat → Nd} {b : Nat} (h : MadeOk N b) (hk : (N b).kind = 1) : ∃ s m l3, N b = leafN s m (N b).n (N b).l1 (N b).l2 l3 := by
  rcases h with ⟨s, m, l0, l1, l2, l3, e⟩ | ⟨s, m, kd, n, ks, hm, e⟩
  · exact ⟨s, m, l3, by rw [e]; rfl⟩
  · have := may_cases hm
    rw [e] at hk
    have h2 : kd = 1 := hk
    omega
theorem made_make {N : Nat → Nd} {b : Nat} (h : MadeOk N b) (hk : (N b).kind ≠ 1) : ∃ s m ks, mayP (N b).kind (N b).n = true ∧ N b = makeN N s m (N b).kind (N b).n ks := by
  rcases h with ⟨s, m, l0, l1, l2, l3, e⟩ | ⟨s, m, kd, n, ks, hm, e⟩
  · exact absurd (by rw [e]; rfl) hk
  · exact ⟨s, m, ks, by rw [e]; exact hm, e.trans (by rw [e]; rfl)⟩

end Tr
end Ex
end Go.Proofs.Yteckbpmliahhhaa
