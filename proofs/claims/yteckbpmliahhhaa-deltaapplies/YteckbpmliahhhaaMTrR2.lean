import Derived.Test.YteckbpmliahhhaaMTrR1
import Derived.Test.YteckbpmliahhhaaTrMkN
namespace Go.Proofs.Yteckbpmliahhhaa
open Go.RowKit
attribute [local go_sem] Oper.semAt_some
namespace Ex
namespace Tr

/-- Rows that may be read. -/
def RowsRd (w : World) (v : Value) (l : List Nd) : Prop := ∃ a cap, v = .slice a l.length cap ∧ l.length ≤ 4194304 ∧ ∀ (i : Nat) (x : Nd), l[i]? = some x → ∃ g, a = some ⟨g, 0, none⟩ ∧ ∀ (j : Nat) (u : Value), (rowL x)[j]? = some u → w.cell? ⟨g, i * 6 + j, none⟩ = some u
theorem RowsRd.keep {w w' : World} {v : Value} {l : List Nd} (h : RowsRd w v l) (hk : Kept w w') : RowsRd w' v l := by
  obtain ⟨a, cap, h1, h2, h3⟩ := h
  refine ⟨a, cap, h1, h2, fun i x hx => ?_⟩
  obtain ⟨g, h4, h5⟩ := h3 i x hx
  exact ⟨g, h4, fun j u hu => grown_cell hk (h5 j u hu)⟩
theorem flatR_at : ∀ (l : List Nd) (i : Nat) (x : Nd), l[i]? = some x → ∀ (j : Nat) (u : Value), (rowL x)[j]? = some u → (flatR l)[i * 6 + j]? = some u
  | [], i, x, h => by simp at h
  | y :: l, 0, x, h => by
    intro j u hu
    have e : y = x := by simpa using h
    subst e
    have hj : j < 6 := (List.getElem?_eq_some_iff.1 hu).1
    have e2 : flatR (y :: l) = rowL y ++ flatR l := rfl
    rw [e2, Nat.zero_mul, Nat.zero_add, List.getElem?_append_left (by exact hj)]
    exact hu
  | y :: l, i + 1, x, h => by
    intro j u hu
    have h1 := flatR_at l i x (by simpa using h) j u hu
    have e2 : flatR (y :: l) = rowL y ++ flatR l := rfl
    have e3 : (rowL y).length = 6 := rfl
    rw [e2, List.getElem?_append_right (by rw [e3]; omega), e3, show (i + 1) * 6 + j - 6 = i * 6 + j by omega]
    exact h1
end Tr
end Ex
end Go.Proofs.Yteckbpmliahhhaa
namespace Go.Proofs.Yteckbpmliahhhaa
open Go.RowKit
attribute [local go_sem] Oper.semAt_some
namespace Ex
namespace Tr

/-- A row without its number. -/
def noId (x : Nd) : Nd := { x with num := 0 }

end Tr
end Ex
end Go.Proofs.Yteckbpmliahhhaa
namespace Go.Proofs.Yteckbpmliahhhaa
open Go.RowKit
namespace Ex
namespace Tr

/-- How a node came to be. -/
def MadeOk (N : Nat → Nd) (b : Nat) : Prop := (∃ s m l0 l1 l2 l3, N b = leafN s m l0 l1 l2 l3) ∨ (∃ s m kd n ks, mayP kd n = true ∧ N b = makeN N s m kd n ks)
theorem made_of {s0 s1 m0 m1 : Nat} {P Q : List Nat} {N : Nat → Nd} {X : Nat → Rd} (hT : TwinOk s0 s1 m0 m1 P Q N X) {b : Nat} (hb : b ∈ P) : MadeOk N b ∧ NdOk (N b) ∧ ((N b).kind = 1 → (N b).kids = []) ∧ (∀ q ∈ (N b).kids, q.1 ∈ P) ∧ (N b).size = 1 + sizeS N ((N b).kids.map Prod.fst) := by
  obtain ⟨i, hi⟩ := List.getElem?_of_mem hb
  obtain ⟨d, hd⟩ : ∃ d, Q[i]? = some d := ⟨_, List.getElem?_eq_getElem (by rw [← hT.1]; exact (List.getElem?_eq_some_iff.1 hi).1)⟩
  have hiP := (List.getElem?_eq_some_iff.1 hi).1
  obtain ⟨h1, _, st, s, m, _, hh⟩ := hT.2.2.2.1 i b d hi hd
  rcases hh with ⟨l0, l1, l2, l3, e, _⟩ | ⟨kd, n, js, hm, hj, e, _⟩
  · refine ⟨Or.inl ⟨s, m, l0, l1, l2, l3, e⟩, h1, ?_, ?_, ?_⟩
    · intro _; rw [e]; rfl
    · intro q hq; rw [e] at hq; simp [leafN] at hq
    · rw [e]; rfl
  · refine ⟨Or.inr ⟨s, m, kd, n, _, hm, e⟩, h1, ?_, ?_, ?_⟩
    · intro h
      rw [e] at h
      have := may_cases hm
      have h2 : kd = 1 := h
      omega
    · intro q hq
      rw [e] at hq
      have h2 : q.1 ∈ (kidG N 0 (js.map (at_ P))).map Prod.fst := List.mem_map.2 ⟨q, hq, rfl⟩
      rw [kidG_fst] at h2
      obtain ⟨j, hj1, hj2⟩ := List.mem_map.1 h2
      rw [← hj2]
      exact at_mem (Nat.lt_trans (hj j hj1) hiP)
    · rw [e]
      show 1 + sizeS N _ = 1 + sizeS N ((kidG N 0 (js.map (at_ P))).map Prod.fst)
      rw [kidG_fst]
/-- The rows of a list of trees, without their numbers. -/
def rowsL (N : Nat → Nd) (ps : List Nat) : List (List Value) := (wl N (sizeS N ps) ps 0).map fun q => rowL (noId (N q.2))
theorem wl_snd (N : Nat → Nd) : ∀ (f : Nat) (ps : List Nat) (a a' : Nat), (wl N f ps a).map Prod.snd = (wl N f ps a').map Prod.snd
  | 0, ps, a, a' => by cases ps <;> rfl
  | f + 1, [], a, a' => rfl
  | f + 1, b :: ps, a, a' => by
    simp only [wl, List.map_cons]
    rw [wl_snd N f _ (a + lwid (N b)) (a' + lwid (N b))]
theorem wl_rows (N : Nat → Nd) (f : Nat) (ps : List Nat) (a a' : Nat) : (wl N f ps a).map (fun q => rowL (noId (N q.2))) = (wl N f ps a').map fun q => rowL (noId (N q.2)) := by
  have h := congrArg (List.map fun b => rowL (noId (N b))) (wl_snd N f ps a a')
  rw [List.map_map, List.map_map] at h
  exact h
section
variable {R : Nat → Prop} {N : Nat → Nd} {B : Nat} {w : World}
theorem rowsL_nil : rowsL N [] = [] := rfl
theorem rowsL_cons (hF : Forest R N B w) {b : Nat} (hb : R b) (ps : List Nat) : rowsL N (b :: ps) = rowL (noId (N b)) :: rowsL N ((N b).kids.map Prod.fst ++ ps) := by
  unfold rowsL
  rw [wl_step hF hb, List.map_cons, wl_rows N _ _ (0 + lwid (N b)) 0]
theorem rowsL_app (hF : Forest R N B w) : ∀ (n : Nat) (ps qs : List Nat), sizeS N ps = n → (∀ p ∈ ps, R p) → rowsL N (ps ++ qs) = rowsL N ps ++ rowsL N qs := by
  intro n
  induction n using Nat.strongRecOn with
  | ind n ih =>
    intro ps qs hn hR
    cases ps with
    | nil => rfl
    | cons b ps =>
      have hb := hR b List.mem_cons_self
      have hsz := (hF b hb).2.2.2.2
      rw [List.cons_append, rowsL_cons hF hb, rowsL_cons hF hb, ← List.append_assoc, ih (sizeS N ((N b).kids.map Prod.fst ++ ps)) (by rw [← hn, sizeS_cons, sizeS_app]; omega) _ qs rfl]
      · rfl
      · intro p hp
        rcases List.mem_append.1 hp with hp | hp
        · obtain ⟨q, hq, rfl⟩ := List.mem_map.1 hp
          exact (hF b hb).2.2.2.1 q hq
        · exact hR p (List.mem_cons_of_mem _ hp)
end
/-- Two trees that tell the same. -/
def Same (N M : Nat → Nd) (b b' : Nat) : Prop := rowsL N [b] = rowsL M [b'] ∧ (N b).width = (M b').width ∧ (N b).leafs = (M b').leafs ∧ (N b).size = (M b').size ∧ (N b).failed = (M b').failed
/-- Two lists of them, one by one. -/
def Sames (N M : Nat → Nd) : List Nat → List Nat → Prop
  | [], [] => True
  | b :: ps, b' :: ps' => Same N M b b' ∧ Sames N M ps ps'
  | _, _ => False
theorem Sames.len {N M : Nat → Nd} : ∀ {ps ps' : List Nat}, Sames N M ps ps' → ps.length = ps'.length
  | [], [], _ => rfl
  | b :: ps, b' :: ps', h => by simp [Sames.len h.2]
  | [], _ :: _, h => h.elim
  | _ :: _, [], h => h.elim
theorem Sames.sums {N M : Nat → Nd} : ∀ {ps ps' : List Nat}, Sames N M ps ps' → sizeS N ps = sizeS M ps' ∧ widthS N ps = widthS M ps' ∧ leafS N ps = leafS M ps' ∧ ∀ fl, failS N fl ps = failS M fl ps'
  | [], [], _ => ⟨rfl, rfl, rfl, fun _ => rfl⟩
  | b :: ps, b' :: ps', h => by
    obtain ⟨h1, h2, h3, h4⟩ := Sames.sums h.2
    obtain ⟨_, e2, e3, e4, e5⟩ := h.1
    simp only [sizeS, widthS, leafS, List.map_cons, List.sum_cons] at h1 h2 h3 ⊢
    refine ⟨by omega, by omega, by omega, fun fl => ?_⟩
    have := h4 false
    simp only [failS, List.any_cons, Bool.false_or, e5] at this ⊢
    rw [this]
  | [], _ :: _, h => h.elim
  | _ :: _, [], h => h.elim
theorem Sames.rows {R R' : Nat → Prop} {N M : Nat → Nd} {B B' : Nat} {w w' : World} (hF : Forest R N B w) (hF' : Forest R' M B' w') : ∀ {ps ps' : List Nat}, Sames N M ps ps' → (∀ p ∈ ps, R p) → (∀ p ∈ ps', R' p) → rowsL N ps = rowsL M ps'
  | [], [], _, _, _ => rfl
  | b :: ps, b' :: ps', h, hR, hR' => by
    have h1 := Sames.rows hF hF' h.2 (fun p hp => hR p (List.mem_cons_of_mem _ hp)) (fun p hp => hR' p (List.mem_cons_of_mem _ hp))
    have e1 := rowsL_app hF _ [b] ps rfl (fun p hp => by rw [List.mem_singleton.1 hp]; exact hR b List.mem_cons_self)
    have e2 := rowsL_app hF' _ [b'] ps' rfl (fun p hp => by rw [List.mem_singleton.1 hp]; exact hR' b' List.mem_cons_self)
    show rowsL N ([b] ++ ps) = rowsL M ([b'] ++ ps')
    rw [e1, e2, h1, h.1.1]
  | [], _ :: _, h, _, _ => h.elim
  | _ :: _, [], h, _, _ => h.elim
theorem Sames.split {N M : Nat → Nd} : ∀ {ks ps ss : List Nat}, Sames N M (ks ++ ps) ss → ∃ s1 s2, ss = s1 ++ s2 ∧ Sames N M ks s1 ∧ Sames N M ps s2
  | [], ps, ss, h => ⟨[], ss, rfl, trivial, h⟩
  | k :: ks, ps, [], h => h.elim
  | k :: ks, ps, s :: ss, h => by
    obtain ⟨s1, s2, e, h1, h2⟩ := Sames.split (ks := ks) h.2
    exact ⟨s :: s1, s2, by rw [e]; rfl, ⟨h.1, h1⟩, h2⟩
/-- What is pending behind k rows. -/
def pendI (N : Nat → Nd) : Nat → List Nat → List Nat
  | 0, ps => ps
  | _ + 1, [] => []
  | k + 1, b :: ps => pendI N k ((N b).kids.map Prod.fst ++ ps)
theorem pendI_wl {R : Nat → Prop} {N : Nat → Nd} {B : Nat} {w : World} (hF : Forest R N B w) : ∀ (k : Nat) (ps : List Nat) (a : Nat), (∀ p ∈ ps, R p) → k < sizeS N ps → ∃ b t, pendI N k ps = b :: t ∧ pendI N (k + 1) ps = (N b).kids.map Prod.fst ++ t ∧ R b ∧ (∀ p ∈ t, R p) ∧ ((wl N (sizeS N ps) ps a).map fun q => N q.2)[k]? = some (N b)
  | k, [], a, _, h => by simp [sizeS] at h
  | 0, b :: ps, a, hR, h => by
    have hb := hR b List.mem_cons_self
    refine ⟨b, ps, rfl, rfl, hb, fun p hp => hR p (List.mem_cons_of_mem _ hp), ?_⟩
    rw [wl_step hF hb]
    rfl
  | k + 1, b :: ps, a, hR, h => by
    have hb := hR b List.mem_cons_self
    have hsz := (hF b hb).2.2.2.2
    obtain ⟨c, t, h1, h2, h3, h4, h5⟩ := pendI_wl hF k ((N b).kids.map Prod.fst ++ ps) (a + lwid (N b)) (fun p hp => by
      rcases List.mem_append.1 hp with hp | hp
      · obtain ⟨q, hq, rfl⟩ := List.mem_map.1 hp
        exact (hF b hb).2.2.2.1 q hq
      · exact hR p (List.mem_cons_of_mem _ hp)) (by rw [sizeS_cons] at h; rw [sizeS_app]; omega)
    refine ⟨c, t, h1, h2, h3, h4, ?_⟩
    rw [wl_step hF hb, List.map_cons, List.getElem?_cons_succ]
    exact h5
theorem pendI_end {R : Nat → Prop} {N : Nat → Nd} {B : Nat} {w : World} (hF : Forest R N B w) : ∀ (k : Nat) (ps : List Nat), (∀ p ∈ ps, R p) → k = sizeS N ps → pendI N k ps = []
  | 0, [], _, _ => rfl
  | k + 1, [], _, h => by simp [sizeS] at h
  | 0, b :: ps, hR, h => by
    have hsz := (hF b (hR b List.mem_cons_self)).2.2.2.2
    rw [sizeS_cons] at h
    omega
  | k + 1, b :: ps, hR, h => by
    have hb := hR b List.mem_cons_self
    have hsz := (hF b hb).2.2.2.2
    refine pendI_end hF k _ (fun p hp => ?_) (by rw [sizeS_cons] at h; rw [sizeS_app]; omega)
    rcases List.mem_append.1 hp with hp | hp
    · obtain ⟨q, hq, rfl⟩ := List.mem_map.1 hp
      exact (hF b hb).2.2.2.1 q hq
    · exact hR p (List.mem_cons_of_mem _ hp)

end Tr
end Ex
end Go.Proofs.Yteckbpmliahhhaa
