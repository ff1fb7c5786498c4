import Derived.Test.YtnjmbijebckncabMDeGv
import Derived.Test.YtnjmbijebckncabMDeWr
namespace Go.Proofs.Ytnjmbijebckncab
open Go.RowKit
set_option linter.unusedVariables false
namespace Ex
namespace Tr

/-- The numbers of all nodes of trees. -/
def wnB (N : Nat → Nd) (ps : List Nat) : List Int := (wl N (sizeS N ps) ps 0).map fun q => ((N q.2).num : Int)
theorem wl_nums (N : Nat → Nd) : ∀ (f : Nat) (ps : List Nat) (a a' : Nat), ((wl N f ps a).map fun q => ((N q.2).num : Int)) = (wl N f ps a').map fun q => ((N q.2).num : Int)
  | 0, _, _, _ => rfl
  | _ + 1, [], _, _ => rfl
  | f + 1, b :: bs, a, a' => by
    have ih := wl_nums N f ((N b).kids.map Prod.fst ++ bs) (a + lwid (N b)) (a' + lwid (N b))
    unfold wl
    rw [List.map_cons, List.map_cons, ih]
theorem wnB_one (N : Nat → Nd) (b : Nat) : wnB N [b] = (walkL N b).map fun q => ((N q.2).num : Int) := by
  unfold wnB walkL
  have e : sizeS N [b] = (N b).size := by simp [sizeS]
  rw [e]
section
variable {R : Nat → Prop} {N : Nat → Nd} {B : Nat} {w : World}
theorem wnB_cons (hF : Forest R N B w) {b : Nat} (hb : R b) (ps : List Nat) : wnB N (b :: ps) = ((N b).num : Int) :: wnB N ((N b).kids.map Prod.fst ++ ps) := by
  unfold wnB
  rw [wl_step hF hb, List.map_cons, wl_nums N _ _ (0 + lwid (N b)) 0]
theorem wnB_app (hF : Forest R N B w) : ∀ (n : Nat) (ps qs : List Nat), sizeS N ps = n → (∀ p ∈ ps, R p) → wnB N (ps ++ qs) = wnB N ps ++ wnB N qs := by
  intro n
  induction n using Nat.strongRecOn with
  | ind n ih =>
    intro ps qs hn hR
    cases ps with
    | nil => rfl
    | cons b ps =>
      have hb := hR b List.mem_cons_self
      have hsz := (hF b hb).2.2.2.2
      rw [List.cons_append, wnB_cons hF hb, wnB_cons hF hb, ← List.append_assoc, ih (sizeS N ((N b).kids.map Prod.fst ++ ps)) (by rw [← hn, sizeS_cons, sizeS_app]; omega) _ qs rfl]
      · rfl
      · intro p hp
        rcases List.mem_append.1 hp with hp | hp
        · obtain ⟨q, hq, rfl⟩ := List.mem_map.1 hp
          exact (hF b hb).2.2.2.1 q hq
        · exact hR p (List.mem_cons_of_mem _ hp)
theorem wnB_mem (hF : Forest R N B w) (y : Int) : ∀ (ps : List Nat), (∀ p ∈ ps, R p) → (y ∈ wnB N ps ↔ ∃ p ∈ ps, y ∈ wnB N [p])
  | [], _ => by simp [wnB, wl_nil]
  | p :: ps, h => by
    have h1 := wnB_app hF _ [p] ps rfl (fun q hq => by rw [List.mem_singleton.1 hq]; exact h p List.mem_cons_self)
    have h2 := wnB_mem hF y ps (fun q hq => h q (List.mem_cons_of_mem _ hq))
    rw [show p :: ps = [p] ++ ps from rfl, h1, List.mem_append, h2]
    constructor
    · rintro (h3 | ⟨q, h3, h4⟩)
      · exact ⟨p, List.mem_cons_self, h3⟩
      · exact ⟨q, List.mem_cons_of_mem _ h3, h4⟩
    · rintro ⟨q, h3, h4⟩
      rcases List.mem_cons.1 h3 with rfl | h3
      · exact Or.inl h4
      · exact Or.inr ⟨q, h3, h4⟩
theorem wnB_node (hF : Forest R N B w) {b : Nat} (hb : R b) (y : Int) : y ∈ wnB N [b] ↔ y = ((N b).num : Int) ∨ ∃ k ∈ (N b).kids.map Prod.fst, y ∈ wnB N [k] := by
  have hk : ∀ p ∈ (N b).kids.map Prod.fst, R p := fun p hp => by
    obtain ⟨q, hq, rfl⟩ := List.mem_map.1 hp
    exact (hF b hb).2.2.2.1 q hq
  rw [wnB_cons hF hb, List.append_nil, List.mem_cons, wnB_mem hF y _ hk]
end
theorem nodeF_has (N : Nat → Nd) (l : List (Nat × Nat)) (y : Int) : (nodeF N l y).isSome = true ↔ y ∈ l.map fun q => ((N q.2).num : Int) := by
  unfold nodeF
  rw [Option.isSome_map, List.find?_isSome]
  constructor
  · rintro ⟨q, h1, h2⟩
    exact List.mem_map.2 ⟨q, List.mem_reverse.1 h1, by simpa using h2⟩
  · intro h
    obtain ⟨q, h1, h2⟩ := List.mem_map.1 h
    exact ⟨q, List.mem_reverse.2 h1, by simpa using h2⟩
/-- The document's Find. -/
def fdP (X : Nat → Pn) (id : Int) : Nat → Nat → Option Nat
  | 0, _ => none
  | f + 1, b => if (X b).id = id then some b else (X b).kids.findSome? (fdP X id f)
theorem fdP_fuel {S : Nat → Prop} {X : Nat → Pn} {rk : Nat → Nat} {w : World} (h : PFor S X rk w) (id : Int) : ∀ (f g b : Nat), S b → rk b < f → rk b < g → fdP X id f b = fdP X id g b
  | 0, _, _, _, h1, _ => by omega
  | _ + 1, 0, _, _, _, h2 => by omega
  | f + 1, g + 1, b, hb, h1, h2 => by
    unfold fdP
    split
    · rfl
    · have key : ∀ l : List Nat, (∀ k ∈ l, S k ∧ rk k < rk b) → l.findSome? (fdP X id f) = l.findSome? (fdP X id g) := fun l => by
        induction l with
        | nil => intro _; rfl
        | cons x l ih =>
          intro hl
          obtain ⟨q1, q2⟩ := hl x List.mem_cons_self
          rw [List.findSome?_cons, List.findSome?_cons, fdP_fuel h id f g x q1 (by omega) (by omega), ih (fun k hk => hl k (List.mem_cons_of_mem _ hk))]
      exact key _ (h.kid b hb)
theorem find_some {α : Type} (f : Nat → Option α) : ∀ l : List Nat, (l.findSome? f).isSome = true ↔ ∃ k ∈ l, (f k).isSome = true
  | [] => by simp
  | x :: l => by
    have ih := find_some f l
    rw [List.findSome?_cons]
    cases h : f x with
    | none =>
      simp only [ih]
      constructor
      · rintro ⟨k, h1, h2⟩; exact ⟨k, List.mem_cons_of_mem _ h1, h2⟩
      · rintro ⟨k, h1, h2⟩
        rcases List.mem_cons.1 h1 with rfl | h1
        · rw [h] at h2; cases h2
        · exact ⟨k, h1, h2⟩
    | some v => simp only [Option.isSome_some, true_iff]; exact ⟨x, List.mem_cons_self, by rw [h]; rfl⟩
/-- The document's steps. -/
def stpP (X : Nat → Pn) (F : Int → Bool) : Nat → Nat → List OpM
  | 0, _ => []
  | f + 1, b => if F (X b).id = true then [⟨1, (X b).id, 0, 0, 0, 0, 0, 0, 0⟩] else if (X b).kind = 1 then [⟨2, 0, 0, 0, 0, (X b).l0, (X b).l1, (X b).l2, (X b).l3⟩] else (X b).kids.flatMap (stpP X F f) ++ [⟨3, 0, (X b).kind, (X b).n, ((X b).kids.length : Int), 0, 0, 0, 0⟩]
theorem stpP_fuel {S : Nat → Prop} {X : Nat → Pn} {rk : Nat → Nat} {w : World} (h : PFor S X rk w) (F : Int → Bool) : ∀ (f g b : Nat), S b → rk b < f → rk b < g → stpP X F f b = stpP X F g b
  | 0, _, _, _, h1, _ => by omega
  | _ + 1, 0, _, _, _, h2 => by omega
  | f + 1, g + 1, b, hb, h1, h2 => by
    unfold stpP
    split
    · rfl
    · split
      · rfl
      · congr 1
        refine flat_congr _ (fun k hk => ?_)
        obtain ⟨q1, q2⟩ := h.kid b hb k hk
        exact stpP_fuel h F f g k q1 (by omega) (by omega)
section
variable {base gb s : Nat} {V : Nat → Prop} {P Q : List Nat} {N : Nat → Nd} {X : Nat → Pn} {m : Nat} {vN vP : Value} {w : World}
theorem tw_find (hM : GrM base gb s V P Q N X m vN vP w) (hT : Tw s P Q N X) (y : Int) : ∀ i, i < P.length → ((fdP X y (rkX X (atL Q i) + 1) (atL Q i)).isSome = true ↔ y ∈ wnB N [atL P i]) := by
  intro i
  induction i using Nat.strongRecOn with
  | ind i ih =>
    intro hi
    have hF := gr_forest hM hT
    have hPF := gr_pfor hM hT
    have hQi : i < Q.length := by rw [← hT.1]; exact hi
    rw [wnB_node hF (atL_mem hi)]
    have htw := hT.pair hi
    obtain ⟨hn1, hn2⟩ := htw.num
    have hkk : (N (atL P i)).kids.map Prod.fst = ((N (atL P i)).kids.map Prod.fst) := rfl
    obtain ⟨_, _, _, hh⟩ := htw
    have hjs : ∃ js : List Nat, (∀ j ∈ js, j < i) ∧ (N (atL P i)).kids.map Prod.fst = js.map (atL P) ∧ (X (atL Q i)).kids = js.map (atL Q) := by
      rcases hh with ⟨l0, l1, l2, l3, e, e2⟩ | ⟨kd, n, js, q0, qj, e, e2⟩
      · exact ⟨[], (fun j hj => by cases hj), (by rw [e]; rfl), (by rw [e2]; rfl)⟩
      · exact ⟨js, qj, (by rw [e, mk_kids]), (by rw [e2])⟩
    obtain ⟨js, qj, e1, e2⟩ := hjs
    rw [e1, hn1]
    unfold fdP
    rw [hn2]
    by_cases hy : ((i + 1 : Nat) : Int) = y
    · rw [if_pos hy]
      simp only [Option.isSome_some, true_iff]
      exact Or.inl hy.symm
    · rw [if_neg hy, find_some, e2]
      have key : ∀ j ∈ js, ((fdP X y (rkX X (atL Q i)) (atL Q j)).isSome = true ↔ y ∈ wnB N [atL P j]) := fun j hj => by
        have hji := qj j hj
        have hjQ : atL Q j ∈ Q := atL_mem (by omega)
        have hlt : rkX X (atL Q j) < rkX X (atL Q i) := (hPF.kid (atL Q i) (atL_mem hQi) (atL Q j) (by rw [e2]; exact List.mem_map_of_mem hj)).2
        rw [← ih j hji (Nat.lt_trans hji hi), fdP_fuel hPF y (rkX X (atL Q i)) (rkX X (atL Q j) + 1) (atL Q j) hjQ hlt (Nat.lt_succ_self _)]
      constructor
      · rintro ⟨k, hk, h9⟩
        obtain ⟨j, hj, rfl⟩ := List.mem_map.1 hk
        exact Or.inr ⟨atL P j, List.mem_map_of_mem hj, (key j hj).1 h9⟩
      · rintro (h9 | ⟨k, hk, h9⟩)
        · exact absurd h9.symm hy
        · obtain ⟨j, hj, rfl⟩ := List.mem_map.1 hk
          exact ⟨atL Q j, List.mem_map_of_mem hj, (key j hj).2 h9⟩
theorem tw_stp (hM : GrM base gb s V P Q N X m vN vP w) (hT : Tw s P Q N X) (f : Int → Option Nat) (F : Int → Bool) (hf : ∀ y, F y = (f y).isSome) : ∀ i, i < P.length → stpP X F (rkX X (atL Q i) + 1) (atL Q i) = stp N f (atL P i) := by
  intro i
  induction i using Nat.strongRecOn with
  | ind i ih =>
    intro hi
    have hF := gr_forest hM hT
    have hPF := gr_pfor hM hT
    have hQi : i < Q.length := by rw [← hT.1]; exact hi
    rw [stp_eq hF f (atL_mem hi)]
    have htw := hT.pair hi
    obtain ⟨hn1, hn2⟩ := htw.num
    obtain ⟨_, _, _, hh⟩ := htw
    unfold stpP
    rw [hn2, hf, hn1]
    by_cases hs : (f ((i + 1 : Nat) : Int)).isSome = true
    · rw [if_pos hs, if_pos hs]
    · rw [if_neg hs, if_neg hs]
      rcases hh with ⟨l0, l1, l2, l3, e, e2⟩ | ⟨kd, n, js, q0, qj, e, e2⟩
      · have hk1 : (N (atL P i)).kind = 1 := by rw [e]; rfl
        have hk2 : (X (atL Q i)).kind = 1 := by rw [e2]
        rw [if_pos hk1, if_pos hk2, e, e2]
        rfl
      · have hk1 : (N (atL P i)).kind ≠ 1 := by rw [e]; exact (may_kd q0).1
        have hk2 : (X (atL Q i)).kind ≠ 1 := by rw [e2]; exact (may_kd q0).1
        have hkids : (N (atL P i)).kids.map Prod.fst = js.map (atL P) := by rw [e, mk_kids]
        have hkidX : (X (atL Q i)).kids = js.map (atL Q) := by rw [e2]
        have hln : (N (atL P i)).kids.length = js.length := by
          have h9 := congrArg List.length hkids
          simpa using h9
        have e9 : ((N (atL P i)).kids.flatMap fun q => stp N f q.1) = (js.map (atL P)).flatMap (stp N f) := by rw [← hkids, List.flatMap_map]
        rw [if_neg hk1, if_neg hk2, e9, hkidX, List.flatMap_map, List.flatMap_map]
        congr 1
        · refine flat_congr _ (fun j hj => ?_)
          have hji := qj j hj
          rw [← ih j hji (Nat.lt_trans hji hi)]
          have hjQ : atL Q j ∈ Q := atL_mem (by omega)
          have hlt : rkX X (atL Q j) < rkX X (atL Q i) := (hPF.kid (atL Q i) (atL_mem hQi) (atL Q j) (by rw [hkidX]; exact List.mem_map_of_mem hj)).2
          exact stpP_fuel hPF F (rkX X (atL Q i)) (rkX X (atL Q j) + 1) (atL Q j) hjQ hlt (Nat.lt_succ_self _)
        · unfold mkOp
          rw [hln, e, e2, List.length_map]
          rfl
/-- Both answer the same steps. -/
theorem tw_script (hM : GrM base gb s V P Q N X m vN vP w) (hT : Tw s P Q N X) {i j : Nat} (hi : i < P.length) (hj : j < P.length) : stpP X (fun y => (fdP X y (rkX X (atL Q i) + 1) (atL Q i)).isSome) (rkX X (atL Q j) + 1) (atL Q j) = stp N (nodeF N (walkL N (atL P i))) (atL P j) := by
  refine tw_stp hM hT _ _ (fun y => ?_) j hj
  have h1 := tw_find hM hT y i hi
  have h2 := nodeF_has N (walkL N (atL P i)) y
  rw [← wnB_one] at h2
  rw [Bool.eq_iff_iff, h1, h2]
end

end Tr
end Ex
end Go.Proofs.Ytnjmbijebckncab
