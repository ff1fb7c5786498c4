import Derived.Test.YthpampfbmpdmoaaTrPath
import Derived.Test.YthpampfbmpdmoaaTrLeav
namespace Go.Proofs.Ythpampfbmpdmoaa
open Go.RowKit
attribute [local go_sem] Oper.semAt_some
namespace Ex
namespace Tr

/-- Functions that agree on these blocks have the same sums. -/
theorem sums_congr {N N' : Nat → Nd} : ∀ (ks : List Nat), (∀ b ∈ ks, N' b = N b) → sizeS N' ks = sizeS N ks ∧ widthS N' ks = widthS N ks ∧ ∀ a, kidG N' a ks = kidG N a ks
  | [], _ => ⟨rfl, rfl, fun _ => rfl⟩
  | b :: ks, h => by
    obtain ⟨h1, h2, h3⟩ := sums_congr (N := N) (N' := N') ks (fun d hd => h d (List.mem_cons_of_mem _ hd))
    have hb := h b List.mem_cons_self
    refine ⟨?_, ?_, fun a => ?_⟩
    · simp only [sizeS, List.map_cons, List.sum_cons, hb] at h1 ⊢
      omega
    · simp only [widthS, List.map_cons, List.sum_cons, hb] at h2 ⊢
      omega
    · simp only [kidG, hb, h3]
/-- A forest with one node more. -/
theorem forest_add {R : Nat → Prop} {N : Nat → Nd} {B B' bb : Nat} {w w' : World} {Y : Nd} (hF : Forest R N B w) (hW : FWid R N) (hB : B ≤ bb) (hbB : bb < B') (hN : ∀ b, R b → NodeAt B' w' b (N b)) (hY : NodeAt B' w' bb Y) (hok : NdOk Y) (hk1 : Y.kind ≠ 1) (hkids : ∀ q ∈ Y.kids, R q.1) (hsz : Y.size = 1 + sizeS N (Y.kids.map Prod.fst)) (hg : Y.kids = kidG N 0 (Y.kids.map Prod.fst)) (hwd : Y.width = widthS N (Y.kids.map Prod.fst)) :
    Forest (fun d => R d ∨ d = bb) (fun d => if d = bb then Y else N d) B' w' ∧ FWid (fun d => R d ∨ d = bb) (fun d => if d = bb then Y else N d) := by
  have hne : ∀ b, R b → b ≠ bb := fun b hb e => by have := (hF b hb).1.1; omega
  have hold : ∀ b, R b → (if b = bb then Y else N b) = N b := fun b hb => if_neg (hne b hb)
  have hcg : ∀ ks : List Nat, (∀ b ∈ ks, R b) → _ := fun ks h => sums_congr (N := N) (N' := fun d => if d = bb then Y else N d) ks (fun b hb => hold b (h b hb))
  have hmap : ∀ (l : List (Nat × Nat)), (∀ q ∈ l, R q.1) → ∀ b ∈ l.map Prod.fst, R b := fun l h b hb => by
    obtain ⟨q, hq, rfl⟩ := List.mem_map.1 hb
    exact h q hq
  constructor
  · rintro b (hb | rfl)
    · dsimp only
      rw [hold b hb]
      obtain ⟨_, h2, h3, h4, h5⟩ := hF b hb
      refine ⟨hN b hb, h2, h3, fun q hq => Or.inl (h4 q hq), ?_⟩
      rw [(hcg _ (hmap _ h4)).1]
      exact h5
    · dsimp only
      rw [if_pos rfl]
      refine ⟨hY, hok, fun e => absurd e hk1, fun q hq => Or.inl (hkids q hq), ?_⟩
      rw [(hcg _ (hmap _ hkids)).1]
      exact hsz
  · rintro b (hb | rfl)
    · dsimp only
      rw [hold b hb]
      have h4 := (hF b hb).2.2.2.1
      rw [(hcg _ (hmap _ h4)).2.1, (hcg _ (hmap _ h4)).2.2 0]
      exact hW b hb
    · dsimp only
      rw [if_pos rfl, (hcg _ (hmap _ hkids)).2.1, (hcg _ (hmap _ hkids)).2.2 0]
      exact ⟨hg, fun _ => hwd⟩
/-- A chain of so many nodes, each with the one below and the leaf a as children. -/
def ChainN (N : Nat → Nd) (a : Nat) : Nat → Nat → Prop
  | 0, b => b = a
  | i + 1, b => (N b).kind = 2 ∧ (N b).width = i + 2 ∧ (N b).leafs = i + 2 ∧ (N b).size = 2 * (i + 1) + 1 ∧ (N b).failed = false ∧ ∃ c, (N b).kids = [(c, 0), (a, i + 1)] ∧ ChainN N a i c
theorem ChainN.congr {R : Nat → Prop} {N N' : Nat → Nd} {B a : Nat} {w : World} (hF : Forest R N B w) (h : ∀ b, R b → N' b = N b) : ∀ (i b : Nat), R b → ChainN N a i b → ChainN N' a i b
  | 0, _, _, hc => hc
  | i + 1, b, hb, ⟨h1, h2, h3, h4, h5, c, h6, h7⟩ => by
    have hc : R c := (hF b hb).2.2.2.1 (c, 0) (by rw [h6]; exact List.mem_cons_self)
    refine ⟨?_, ?_, ?_, ?_, ?_, c, ?_, ChainN.congr hF h i c hc h7⟩ <;> rw [h b hb] <;> assumption
/-- What a leaf of one byte is. -/
def OneLeaf (N : Nat → Nd) (a : Nat) : Prop := (N a).kind = 1 ∧ (N a).width = 1 ∧ (N a).leafs = 1 ∧ (N a).size = 1 ∧ (N a).failed = false ∧ (N a).kids = []
theorem ChainN.sums {N : Nat → Nd} {a : Nat} (ha : OneLeaf N a) : ∀ {i b : Nat}, ChainN N a i b → (N b).width = i + 1 ∧ (N b).leafs = i + 1 ∧ (N b).size = 2 * i + 1 ∧ (N b).failed = false
  | 0, b, h => by
    have e : b = a := h
    subst e
    exact ⟨ha.2.1, ha.2.2.1, ha.2.2.2.1, ha.2.2.2.2.1⟩
  | _ + 1, _, ⟨_, h2, h3, h4, h5, _⟩ => ⟨h2, h3, h4, h5⟩
section
variable {R : Nat → Prop} {N : Nat → Nd} {B a : Nat} {w : World}
/-- So many rows as the sizes say. -/
theorem wl_length (hF : Forest R N B w) : ∀ (f : Nat) (ps : List Nat) (l : Nat), (∀ p ∈ ps, R p) → sizeS N ps = f → (wl N f ps l).length = f
  | f, [], l, _, h => by rw [wl_nil, ← h]; rfl
  | 0, b :: ps, l, hp, h => by
    have h1 := (hF b (hp b List.mem_cons_self)).2.1.1
    rw [sizeS_cons] at h
    omega
  | f + 1, b :: ps, l, hp, h => by
    have hb := hp b List.mem_cons_self
    have e : sizeS N ((N b).kids.map Prod.fst ++ ps) = f := by
      rw [sizeS_app]
      rw [sizeS_cons, (hF b hb).2.2.2.2] at h
      omega
    rw [wl, List.length_cons, wl_length hF f _ _ (fun p hp' => ?_) e]
    rcases List.mem_append.1 hp' with h1 | h1
    · obtain ⟨k, hk, rfl⟩ := List.mem_map.1 h1
      exact (hF b hb).2.2.2.1 k hk
    · exact hp p (List.mem_cons_of_mem _ h1)
/-- The leaves of a chain. -/
theorem chain_leaves (hF : Forest R N B w) (ha : OneLeaf N a) (hRa : R a) : ∀ (i b : Nat) (ps : List Nat) (l : Nat), R b → ChainN N a i b → (wl N (sizeS N (b :: ps)) (b :: ps) l).filter (leafB N) = (List.range (i + 1)).map (fun k => (l + k, a)) ++ (wl N (sizeS N ps) ps (l + i + 1)).filter (leafB N)
  | 0, b, ps, l, hb, h => by
    have e : b = a := h
    subst e
    have hl : leafB N (l, b) = true := by unfold leafB; rw [ha.1]; rfl
    have hw : lwid (N b) = 1 := by unfold lwid; rw [if_pos ha.1, ha.2.1]
    rw [wl_step hF hb, ha.2.2.2.2.2, hw, List.filter_cons_of_pos hl]
    rfl
  | i + 1, b, ps, l, hb, ⟨h1, h2, h3, h4, h5, c, h6, h7⟩ => by
    have hl : leafB N (l, b) = false := by unfold leafB; rw [h1]; rfl
    have hw : lwid (N b) = 0 := by unfold lwid; rw [if_neg (by rw [h1]; decide)]
    have hc : R c := (hF b hb).2.2.2.1 (c, 0) (by rw [h6]; exact List.mem_cons_self)
    have hla : leafB N (l + i + 1, a) = true := by unfold leafB; rw [ha.1]; rfl
    have hwa : lwid (N a) = 1 := by unfold lwid; rw [if_pos ha.1, ha.2.1]
    rw [wl_step hF hb, h6, hw, List.filter_cons_of_neg (by simp [hl])]
    show (wl N (sizeS N (c :: a :: ps)) (c :: a :: ps) (l + 0)).filter (leafB N) = _
    rw [Nat.add_zero, chain_leaves hF ha hRa i c (a :: ps) l hc h7, wl_step hF hRa, ha.2.2.2.2.2, hwa, List.filter_cons_of_pos hla, List.range_succ (n := i + 1), List.map_append, List.append_assoc]
    rfl
end
/-- Going down a chain. -/
theorem chain_down {R : Nat → Prop} {N : Nat → Nd} {a n top : Nat} {wy : List (Nat × Nat × Nat)} (ha : OneLeaf N a) (hP : PathOk R N top wy) (hc : ChainN N a n top) : ∀ (i : Nat) (q : Nat × Nat × Nat), wy[i]? = some q → (∃ k, k + i = n ∧ ChainN N a k q.1 ∧ q.2.1 = 0) ∨ (q.1 = a ∧ q.2.1 + i = n + 1 ∧ 1 ≤ i ∧ wy.length = i + 1)
  | 0, q, hq => by
    have h1 := hP.1
    rw [List.head?_eq_getElem?, hq] at h1
    injection h1 with h1
    subst h1
    exact Or.inl ⟨n, rfl, hc, rfl⟩
  | i + 1, q', hq' => by
    have hl := (List.getElem?_eq_some_iff.1 hq').1
    obtain ⟨q, hq⟩ : ∃ q, wy[i]? = some q := ⟨_, List.getElem?_eq_getElem (by omega)⟩
    obtain ⟨k, hk, e1, e2⟩ := hP.2.2 i q q' hq hq'
    rcases chain_down ha hP hc i q hq with ⟨j, hj, hcj, h0⟩ | ⟨h1, h2, h3, h4⟩
    · cases j with
      | zero =>
        have e : q.1 = a := hcj
        rw [e, ha.2.2.2.2.2] at hk
        simp at hk
      | succ j =>
        obtain ⟨g1, g2, g3, g4, g5, c, g6, g7⟩ := hcj
        rw [g6] at hk
        have hw : q'.2.2 < 2 := (List.getElem?_eq_some_iff.1 hk).1
        rcases Nat.lt_or_ge q'.2.2 1 with hlt | hge
        · have e0 : q'.2.2 = 0 := by omega
          rw [e0] at hk
          simp only [List.getElem?_cons_zero, Option.some.injEq] at hk
          subst hk
          exact Or.inl ⟨j, by omega, by rw [e1]; exact g7, by rw [e2, h0]; rfl⟩
        · have e0 : q'.2.2 = 1 := by omega
          rw [e0] at hk
          simp only [List.getElem?_cons_succ, List.getElem?_cons_zero, Option.some.injEq] at hk
          subst hk
          have e2' : q'.2.1 = q.2.1 + (j + 1) := e2
          refine Or.inr ⟨e1, by omega, by omega, ?_⟩
          rcases Nat.lt_or_ge (i + 1 + 1) wy.length with hx | hx
          · exfalso
            obtain ⟨q2, hq2⟩ : ∃ q, wy[i + 1 + 1]? = some q := ⟨_, List.getElem?_eq_getElem hx⟩
            obtain ⟨k2, hk2, _⟩ := hP.2.2 (i + 1) q' q2 hq' hq2
            have e1' : q'.1 = a := e1
            rw [e1', ha.2.2.2.2.2] at hk2
            simp at hk2
          · omega
    · exfalso
      omega
/-- Where a leaf of a chain lies. -/
theorem chain_end {R : Nat → Prop} {N : Nat → Nd} {a n top : Nat} {pre : List (Nat × Nat × Nat)} {q : Nat × Nat × Nat} {at_ : Nat} (ha : OneLeaf N a) (hP : PathOk R N top (pre ++ [q])) (hc : ChainN N a n top) (hk : (N q.1).kind = 1) (hh : holdsB q (N q.1).width at_ = true) : q.1 = a ∧ q.2.1 = at_ ∧ (at_ = 0 → pre.length = n ∨ n + 1 = pre.length ∧ False) ∧ (1 ≤ at_ → pre.length + at_ = n + 1) := by
  have hq : (pre ++ [q])[pre.length]? = some q := by simp
  unfold holdsB at hh
  simp only [Bool.and_eq_true, decide_eq_true_eq] at hh
  rcases chain_down ha hP hc pre.length q hq with ⟨k, hkn, hck, h0⟩ | ⟨h1, h2, h3, h4⟩
  · cases k with
    | zero =>
      have e : q.1 = a := hck
      rw [e, ha.2.1] at hh
      refine ⟨e, by omega, fun _ => Or.inl (by omega), fun h => by omega⟩
    | succ k =>
      obtain ⟨g1, _⟩ := hck
      rw [g1] at hk
      cases hk
  · rw [h1, ha.2.1] at hh
    have hle : pre.length ≤ n := by
      rcases Nat.lt_or_ge n pre.length with hx | hx
      · exfalso
        have := h2
        obtain ⟨q2, hq2⟩ : ∃ q2, (pre ++ [q])[pre.length - 1]? = some q2 := ⟨_, List.getElem?_eq_getElem (by simp; omega)⟩
        have hq' : (pre ++ [q])[pre.length - 1 + 1]? = some q := by rw [show pre.length - 1 + 1 = pre.length by omega]; exact hq
        obtain ⟨kk, hkk, _⟩ := hP.2.2 _ q2 q hq2 hq'
        rcases chain_down ha hP hc (pre.length - 1) q2 hq2 with ⟨k, hkn, hck, h0⟩ | ⟨g1, g2, g3, g4⟩
        · have : k = 0 := by omega
          subst this
          have e : q2.1 = a := hck
          rw [e, ha.2.2.2.2.2] at hkk
          simp at hkk
        · simp only [List.length_append, List.length_cons, List.length_nil] at g4
          omega
      · exact hx
    refine ⟨h1, by omega, fun h => by omega, fun h => by omega⟩

end Tr
end Ex
end Go.Proofs.Ythpampfbmpdmoaa
