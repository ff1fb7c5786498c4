import Derived.Test.YteckbpmliahhhaaMDeGv
import Derived.Test.YteckbpmliahhhaaMDeWr
import Derived.Test.YteckbpmliahhhaaTrHead
import Derived.Test.YteckbpmliahhhaaMDeLl
import Derived.Test.YteckbpmliahhhaaTrRows
namespace Go.Proofs.Yteckbpmliahhhaa
open Go.RowKit
set_option linter.unusedVariables false
namespace Ex
namespace Tr

/-- The numbers of all nodes of trees. -/
def wnB (N : Nat → Nd) (ps : List Nat) : List Int := (wl N (sizeS N ps) ps 0).map fun q => ((N q.2).num : Int)
theorem wl_nums (N : Nat → Nd) : ∀ (f : Nat) (ps : List Nat) (a a' : Nat), ((wl N f ps a).map fun q => ((N q.2).num : Int)) = (wl N f ps a').map fun q => ((N q.2).num : Int)
  | 0, _, _, _ => rfl
  | _ + 1, [], _, _ => rfl
  | f + 1, b :: bs, a, a' => by
    have ih := wl_nums N f ((N b).kids.map Prod.fst ++ bs) (a + lwid (N b)) (a' + lwid (N b))
    unfold wl
    rw [List.map_cons, List.map_cons, ih]
theorem wnB_one (N : Nat → Nd) (b : Nat) : wnB N [b] = (walkL N b).map fun q => ((N q.2).num : Int) := by
  unfold wnB walkL
  have e : sizeS N [b] = (N b).size := by simp [sizeS]
  rw [e]
section
variable {R : Nat → Prop} {N : Nat → Nd} {B : Nat} {w : World}
theorem wnB_cons (hF : Forest R N B w) {b : Nat} (hb : R b) (ps : List Nat) : wnB N (b :: ps) = ((N b).num : Int) :: wnB N ((N b).kids.map Prod.fst ++ ps) := by
  unfold wnB
  rw [wl_step hF hb, List.map_cons, wl_nums N _ _ (0 + lwid (N b)) 0]
theorem wnB_app (hF : Forest R N B w) : ∀ (n : Nat) (ps qs : List Nat), sizeS N ps = n → (∀ p ∈ ps, R p) → wnB N (ps ++ qs) = wnB N ps ++ wnB N qs := by
  intro n
  induction n using Nat.strongRecOn with
  | ind n ih =>
    intro ps qs hn hR
    cases ps with
    | nil => rfl
    | cons b ps =>
      have hb := hR b List.mem_cons_self
      have hsz := (hF b hb).2.2.2.2
      rw [List.cons_append, wnB_cons hF hb, wnB_cons hF hb, ← List.append_assoc, ih (sizeS N ((N b).kids.map Prod.fst ++ ps)) (by rw [← hn, sizeS_cons, sizeS_app]; omega) _ qs rfl]
      · rfl
      · intro p hp
        rcases List.mem_append.1 hp with hp | hp
        · obtain ⟨q, hq, rfl⟩ := List.mem_map.1 hp
          exact (hF b hb).2.2.2.1 q hq
        · exact hR p (List.mem_cons_of_mem _ hp)
theorem wnB_mem (hF : Forest R N B w) (y : Int) : ∀ (ps : List Nat), (∀ p ∈ ps, R p) → (y ∈ wnB N ps ↔ ∃ p ∈ ps, y ∈ wnB N [p])
  | [], _ => by simp [wnB, wl_nil]
  | p :: ps, h => by
    have h1 := wnB_app hF _ [p] ps rfl (fun q hq => by rw [List.mem_singleton.1 hq]; exact h p List.mem_cons_self)
    have h2 := wnB_mem hF y ps (fun q hq => h q (List.mem_cons_of_mem _ hq))
    rw [show p :: ps = [p] ++ ps from rfl, h1, List.mem_append, h2]
    constructor
    · rintro (h3 | ⟨q, h3, h4⟩)
      · exact ⟨p, List.mem_cons_self, h3⟩
      · exact ⟨q, List.mem_cons_of_mem _ h3, h4⟩
    · rintro ⟨q, h3, h4⟩
      rcases List.mem_cons.1 h3 with rfl | h3
      · exact Or.inl h4
      · exact Or.inr ⟨q, h3, h4⟩
theorem wnB_node (hF : Forest R N B w) {b : Nat} (hb : R b) (y : Int) : y ∈ wnB N [b] ↔ y = ((N b).num : Int) ∨ ∃ k ∈ (N b).kids.map Prod.fst, y ∈ wnB N [k] := by
  have hk : ∀ p ∈ (N b).kids.map Prod.fst, R p := fun p hp => by
    obtain ⟨q, hq, rfl⟩ := List.mem_map.1 hp
    exact (hF b hb).2.2.2.1 q hq
  rw [wnB_cons hF hb, List.append_nil, List.mem_cons, wnB_mem hF y _ hk]
end
theorem nodeF_has (N : Nat → Nd) (l : List (Nat × Nat)) (y : Int) : (nodeF N l y).isSome = true ↔ y ∈ l.map fun q => ((N q.2).num : Int) := by
  unfold nodeF
  rw [Option.isSome_map, List.find?_isSome]
  constructor
  · rintro ⟨q, h1, h2⟩
    exact List.mem_map.2 ⟨q, List.mem_reverse.1 h1, by simpa using h2⟩
  · intro h
    obtain ⟨q, h1, h2⟩ := List.mem_map.1 h
    exact ⟨q, List.mem_reverse.2 h1, by simpa using h2⟩
/-- The document's Find. -/
def fdP (X : Nat → Pn) (id : Int) : Nat → Nat → Option Nat
  | 0, _ => none
  | f + 1, b => if (X b).id = id then some b else (X b).kids.findSome? (fdP X id f)
theorem fdP_fuel {S : Nat → Prop} {X : Nat → Pn} {rk : Nat → Nat} {w : World} (h : PFor S X rk w) (id : Int) : ∀ (f g b : Nat), S b → rk b < f → rk b < g → fdP X id f b = fdP X id g b
  | 0, _, _, _, h1, _ => by omega
  | _ + 1, 0, _, _, _, h2 => by omega
  | f + 1, g + 1, b, hb, h1, h2 => by
    unfold fdP
    split
    · rfl
    · have key : ∀ l : List Nat, (∀ k ∈ l, S k ∧ rk k < rk b) → l.findSome? (fdP X id f) = l.findSome? (fdP X id g) := fun l => by
        induction l with
        | nil => intro _; rfl
        | cons x l ih =>
          intro hl
          obtain ⟨q1, q2⟩ := hl x List.mem_cons_self
          rw [List.findSome?_cons, List.findSome?_cons, fdP_fuel h id f g x q1 (by omega) (by omega), ih (fun k hk => hl k (List.mem_cons_of_mem _ hk))]
      exact key _ (h.kid b hb)
theorem find_some {α : Type} (f : Nat → Option α) : ∀ l : List Nat, (l.findSome? f).isSome = true ↔ ∃ k ∈ l, (f k).isSome = true
  | [] => by simp
  | x :: l => by
    have ih := find_some f l
    rw [List.findSome?_cons]
    cases h : f x with
    | none =>
      simp only [ih]
      constructor
      · rintro ⟨k, h1, h2⟩; exact ⟨k, List.mem_cons_of_mem _ h1, h2⟩
      · rintro ⟨k, h1, h2⟩
        rcases List.mem_cons.1 h1 with rfl | h1
        · rw [h] at h2; cases h2
        · exact ⟨k, h1, h2⟩
    | some v => simp only [Option.isSome_some, true_iff]; exact ⟨x, List.mem_cons_self, by rw [h]; rfl⟩
/-- The document's steps. -/
def stpP (X : Nat → Pn) (F : Int → Bool) : Nat → Nat → List OpM
  | 0, _ => []
  | f + 1, b => if F (X b).id = true then [⟨1, (X b).id, 0, 0, 0, 0, 0, 0, 0⟩] else if (X b).kind = 1 then [⟨2, 0, 0, 0, 0, (X b).l0, (X b).l1, (X b).l2, (X b).l3⟩] else (X b).kids.flatMap (stpP X F f) ++ [⟨3, 0, (X b).kind, (X b).n, ((X b).kids.length : Int), 0, 0, 0, 0⟩]
theorem stpP_fuel {S : Nat → Prop} {X : Nat → Pn} {rk : Nat → Nat} {w : World} (h : PFor S X rk w) (F : Int → Bool) : ∀ (f g b : Nat), S b → rk b < f → rk b < g → stpP X F f b = stpP X F g b
  | 0, _, _, _, h1, _ => by omega
  | _ + 1, 0, _, _, _, h2 => by omega
  | f + 1, g + 1, b, hb, h1, h2 => by
    unfold stpP
    split
    · rfl
    · split
      · rfl
      · congr 1
        refine flat_congr _ (fun k hk => ?_)
        obtain ⟨q1, q2⟩ := h.kid b hb k hk
        exact stpP_fuel h F f g k q1 (by omega) (by omega)
section
variable {base gb s : Nat} {V : Nat → Prop} {P Q : List Nat} {N : Nat → Nd} {X : Nat → Pn} {m : Nat} {vN vP : Value} {w : World}
theorem tw_find (hM : GrM base gb s V P Q N X m vN vP w) (hT : Tw s P Q N X) (y : Int) : ∀ i, i < P.length → ((fdP X y (rkX X (atL Q i) + 1) (atL Q i)).isSome = true ↔ y ∈ wnB N [atL P i]) := by
  intro i
  induction i using Nat.strongRecOn with
  | ind i ih =>
    intro hi
    have hF := gr_forest hM hT
    have hPF := gr_pfor hM hT
    have hQi : i < Q.length := by rw [← hT.1]; exact hi
    rw [wnB_node hF (atL_mem hi)]
    have htw := hT.pair hi
    obtain ⟨hn1, hn2⟩ := htw.num
    have hkk : (N (atL P i)).kids.map Prod.fst = ((N (atL P i)).kids.map Prod.fst) := rfl
    obtain ⟨_, _, _, hh⟩ := htw
    have hjs : ∃ js : List Nat, (∀ j ∈ js, j < i) ∧ (N (atL P i)).kids.map Prod.fst = js.map (atL P) ∧ (X (atL Q i)).kids = js.map (atL Q) := by
      rcases hh with ⟨l0, l1, l2, l3, e, e2⟩ | ⟨kd, n, js, q0, qj, e, e2⟩
      · exact ⟨[], (fun j hj => by cases hj), (by rw [e]; rfl), (by rw [e2]; rfl)⟩
      · exact ⟨js, qj, (by rw [e, mk_kids]), (by rw [e2])⟩
    obtain ⟨js, qj, e1, e2⟩ := hjs
    rw [e1, hn1]
    unfold fdP
    rw [hn2]
    by_cases hy : ((i + 1 : Nat) : Int) = y
    · rw [if_pos hy]
      simp only [Option.isSome_some, true_iff]
      exact Or.inl hy.symm
    · rw [if_neg hy, find_some, e2]
      have key : ∀ j ∈ js, ((fdP X y (rkX X (atL Q i)) (atL Q j)).isSome = true ↔ y ∈ wnB N [atL P j]) := fun j hj => by
        have hji := qj j hj
        have hjQ : atL Q j ∈ Q := atL_mem (by omega)
        have hlt : rkX X (atL Q j) < rkX X (atL Q i) := (hPF.kid (atL Q i) (atL_mem hQi) (atL Q j) (by rw [e2]; exact List.mem_map_of_mem hj)).2
        rw [← ih j hji (Nat.lt_trans hji hi), fdP_fuel hPF y (rkX X (atL Q i)) (rkX X (atL Q j) + 1) (atL Q j) hjQ hlt (Nat.lt_succ_self _)]
      constructor
      · rintro ⟨k, hk, h9⟩
        obtain ⟨j, hj, rfl⟩ := List.mem_map.1 hk
        exact Or.inr ⟨atL P j, List.mem_map_of_mem hj, (key j hj).1 h9⟩
      · rintro (h9 | ⟨k, hk, h9⟩)
        · exact absurd h9.symm hy
        · obtain ⟨j, hj, rfl⟩ := List.mem_map.1 hk
          exact ⟨atL Q j, List.mem_map_of_mem hj, (key j hj).2 h9⟩
theorem tw_stp (hM : GrM base gb s V P Q N X m vN vP w) (hT : Tw s P Q N X) (f : Int → Option Nat) (F : Int → Bool) (hf : ∀ y, F y = (f y).isSome) : ∀ i, i < P.length → stpP X F (rkX X (atL Q i) + 1) (atL Q i) = stp N f (atL P i) := by
  intro i
  induction i using Nat.strongRecOn with
  | ind i ih =>
    intro hi
    have hF := gr_forest hM hT
    have hPF := gr_pfor hM hT
    have hQi : i < Q.length := by rw [← hT.1]; exact hi
    rw [stp_eq hF f (atL_mem hi)]
    have htw := hT.pair hi
    obtain ⟨hn1, hn2⟩ := htw.num
    obtain ⟨_, _, _, hh⟩ := htw
    unfold stpP
    rw [hn2, hf, hn1]
    by_cases hs : (f ((i + 1 : Nat) : Int)).isSome = true
    · rw [if_pos hs, if_pos hs]
    · rw [if_neg hs, if_neg hs]
      rcases hh with ⟨l0, l1, l2, l3, e, e2⟩ | ⟨kd, n, js, q0, qj, e, e2⟩
      · have hk1 : (N (atL P i)).kind = 1 := by rw [e]; rfl
        have hk2 : (X (atL Q i)).kind = 1 := by rw [e2]
        rw [if_pos hk1, if_pos hk2, e, e2]
        rfl
      · have hk1 : (N (atL P i)).kind ≠ 1 := by rw [e]; exact (may_kd q0).1
        have hk2 : (X (atL Q i)).kind ≠ 1 := by rw [e2]; exact (may_kd q0).1
        have hkids : (N (atL P i)).kids.map Prod.fst = js.map (atL P) := by rw [e, mk_kids]
        have hkidX : (X (atL Q i)).kids = js.map (atL Q) := by rw [e2]
        have hln : (N (atL P i)).kids.length = js.length := by
          have h9 := congrArg List.length hkids
          simpa using h9
        have e9 : ((N (atL P i)).kids.flatMap fun q => stp N f q.1) = (js.map (atL P)).flatMap (stp N f) := by rw [← hkids, List.flatMap_map]
        rw [if_neg hk1, if_neg hk2, e9, hkidX, List.flatMap_map, List.flatMap_map]
        congr 1
        · refine flat_congr _ (fun j hj => ?_)
          have hji := qj j hj
          rw [← ih j hji (Nat.lt_trans hji hi)]
          have hjQ : atL Q j ∈ Q := atL_mem (by omega)
          have hlt : rkX X (atL Q j) < rkX X (atL Q i) := (hPF.kid (atL Q i) (atL_mem hQi) (atL Q j) (by rw [hkidX]; exact List.mem_map_of_mem hj)).2
          exact stpP_fuel hPF F (rkX X (atL Q i)) (rkX X (atL Q j) + 1) (atL Q j) hjQ hlt (Nat.lt_succ_self _)
        · unfold mkOp
          rw [hln, e, e2, List.length_map]
          rfl
/-- Both answer the same steps. -/
theorem tw_script (hM : GrM base gb s V P Q N X m vN vP w) (hT : Tw s P Q N X) {i j : Nat} (hi : i < P.length) (hj : j < P.length) : stpP X (fun y => (fdP X y (rkX X (atL Q i) + 1) (atL Q i)).isSome) (rkX X (atL Q j) + 1) (atL Q j) = stp N (nodeF N (walkL N (atL P i))) (atL P j) := by
  refine tw_stp hM hT _ _ (fun y => ?_) j hj
  have h1 := tw_find hM hT y i hi
  have h2 := nodeF_has N (walkL N (atL P i)) y
  rw [← wnB_one] at h2
  rw [Bool.eq_iff_iff, h1, h2]
end

end Tr
end Ex
end Go.Proofs.Yteckbpmliahhhaa
namespace Go.Proofs.Yteckbpmliahhhaa
open Go.RowKit
set_option linter.unusedVariables false
namespace Ex
namespace Tr

/-- The nodes of trees, the upper ones first. -/
def wlB (N : Nat → Nd) (ps : List Nat) : List Nat := (wl N (sizeS N ps) ps 0).map Prod.snd
theorem wl_sndB (N : Nat → Nd) : ∀ (f : Nat) (ps : List Nat) (a a' : Nat), (wl N f ps a).map Prod.snd = (wl N f ps a').map Prod.snd
  | 0, _, _, _ => rfl
  | _ + 1, [], _, _ => rfl
  | f + 1, b :: bs, a, a' => by
    have ih := wl_sndB N f ((N b).kids.map Prod.fst ++ bs) (a + lwid (N b)) (a' + lwid (N b))
    unfold wl
    rw [List.map_cons, List.map_cons, ih]
theorem wlB_one (N : Nat → Nd) (b : Nat) : wlB N [b] = (walkL N b).map Prod.snd := by
  unfold wlB walkL
  have e : sizeS N [b] = (N b).size := by simp [sizeS]
  rw [e]
section
variable {R : Nat → Prop} {N : Nat → Nd} {B : Nat} {w : World}
theorem wlB_cons (hF : Forest R N B w) {b : Nat} (hb : R b) (ps : List Nat) : wlB N (b :: ps) = b :: wlB N ((N b).kids.map Prod.fst ++ ps) := by
  unfold wlB
  rw [wl_step hF hb, List.map_cons, wl_sndB N _ _ (0 + lwid (N b)) 0]
theorem kid_R (hF : Forest R N B w) {b : Nat} (hb : R b) : ∀ p ∈ (N b).kids.map Prod.fst, R p := fun p hp => by
  obtain ⟨q, hq, rfl⟩ := List.mem_map.1 hp
  exact (hF b hb).2.2.2.1 q hq
theorem wlB_app (hF : Forest R N B w) : ∀ (n : Nat) (ps qs : List Nat), sizeS N ps = n → (∀ p ∈ ps, R p) → wlB N (ps ++ qs) = wlB N ps ++ wlB N qs := by
  intro n
  induction n using Nat.strongRecOn with
  | ind n ih =>
    intro ps qs hn hR
    cases ps with
    | nil => rfl
    | cons b ps =>
      have hb := hR b List.mem_cons_self
      have hsz := (hF b hb).2.2.2.2
      rw [List.cons_append, wlB_cons hF hb, wlB_cons hF hb, ← List.append_assoc, ih (sizeS N ((N b).kids.map Prod.fst ++ ps)) (by rw [← hn, sizeS_cons, sizeS_app]; omega) _ qs rfl]
      · rfl
      · intro p hp
        rcases List.mem_append.1 hp with hp | hp
        · exact kid_R hF hb p hp
        · exact hR p (List.mem_cons_of_mem _ hp)
theorem wlB_node (hF : Forest R N B w) {b : Nat} (hb : R b) : wlB N [b] = b :: wlB N ((N b).kids.map Prod.fst) := by rw [wlB_cons hF hb, List.append_nil]
theorem wlB_pair (hF : Forest R N B w) {b : Nat} (hb : R b) (ps : List Nat) : wlB N (b :: ps) = wlB N [b] ++ wlB N ps := wlB_app hF _ [b] ps rfl (fun q hq => by rw [List.mem_singleton.1 hq]; exact hb)
theorem wlB_in (hF : Forest R N B w) : ∀ (n : Nat) (ps : List Nat), sizeS N ps = n → (∀ p ∈ ps, R p) → ∀ x ∈ wlB N ps, R x := by
  intro n
  induction n using Nat.strongRecOn with
  | ind n ih =>
    intro ps hn hR x hx
    cases ps with
    | nil => simp [wlB, wl_nil] at hx
    | cons b ps =>
      have hb := hR b List.mem_cons_self
      have hsz := (hF b hb).2.2.2.2
      rw [wlB_cons hF hb] at hx
      rcases List.mem_cons.1 hx with rfl | hx
      · exact hb
      · refine ih (sizeS N ((N b).kids.map Prod.fst ++ ps)) (by rw [← hn, sizeS_cons, sizeS_app]; omega) _ rfl (fun p hp => ?_) x hx
        rcases List.mem_append.1 hp with hp | hp
        · exact kid_R hF hb p hp
        · exact hR p (List.mem_cons_of_mem _ hp)
/-- What is below something that is below is below. -/
theorem wlB_trans (hF : Forest R N B w) : ∀ (n : Nat) (ps : List Nat), sizeS N ps = n → (∀ p ∈ ps, R p) → ∀ x ∈ wlB N ps, ∀ y ∈ wlB N [x], y ∈ wlB N ps := by
  intro n
  induction n using Nat.strongRecOn with
  | ind n ih =>
    intro ps hn hR x hx y hy
    cases ps with
    | nil => simp [wlB, wl_nil] at hx
    | cons b ps =>
      have hb := hR b List.mem_cons_self
      have hsz := (hF b hb).2.2.2.2
      have hps : ∀ p ∈ (N b).kids.map Prod.fst ++ ps, R p := fun p hp => by
        rcases List.mem_append.1 hp with hp | hp
        · exact kid_R hF hb p hp
        · exact hR p (List.mem_cons_of_mem _ hp)
      have hc := wlB_cons hF hb ps
      rw [hc] at hx
      rcases List.mem_cons.1 hx with rfl | hx
      · rw [wlB_pair hF hb]
        exact List.mem_append_left _ hy
      · rw [hc]
        exact List.mem_cons_of_mem _ (ih (sizeS N ((N b).kids.map Prod.fst ++ ps)) (by rw [← hn, sizeS_cons, sizeS_app]; omega) _ rfl hps x hx y hy)
end
theorem wl_congrB {N N' : Nat → Nd} {R : Nat → Prop} (hk : ∀ b, R b → ∀ q ∈ (N b).kids, R q.1) (h : ∀ b, R b → N' b = N b) : ∀ (f : Nat) (ps : List Nat) (a : Nat), (∀ p ∈ ps, R p) → wl N' f ps a = wl N f ps a
  | 0, _, _, _ => rfl
  | _ + 1, [], _, _ => rfl
  | f + 1, b :: bs, a, hR => by
    have hb := hR b List.mem_cons_self
    unfold wl
    rw [h b hb, wl_congrB hk h f _ _ (fun p hp => by
      rcases List.mem_append.1 hp with hp | hp
      · obtain ⟨q, hq, rfl⟩ := List.mem_map.1 hp
        exact hk b hb q hq
      · exact hR p (List.mem_cons_of_mem _ hp))]
theorem sizeS_cong {N N' : Nat → Nd} : ∀ (ps : List Nat), (∀ p ∈ ps, N' p = N p) → sizeS N' ps = sizeS N ps
  | [], _ => rfl
  | p :: ps, h => by rw [sizeS_cons, sizeS_cons, h p List.mem_cons_self, sizeS_cong ps (fun q hq => h q (List.mem_cons_of_mem _ hq))]
theorem wlB_congr {N N' : Nat → Nd} {R : Nat → Prop} (hk : ∀ b, R b → ∀ q ∈ (N b).kids, R q.1) (h : ∀ b, R b → N' b = N b) (ps : List Nat) (hR : ∀ p ∈ ps, R p) : wlB N' ps = wlB N ps := by
  unfold wlB
  rw [sizeS_cong ps (fun p hp => h p (hR p hp)), wl_congrB hk h _ ps 0 hR]
/-- A node and its copy tell the same row; its number is the same, or new. -/
def RowRel (N N' : Nat → Nd) (f : Int → Option Nat) (M0 : Nat) (x y : Nat) : Prop := (N' y).kind = (N x).kind ∧ (N' y).n = (N x).n ∧ (N' y).l1 = (N x).l1 ∧ (N' y).l2 = (N x).l2 ∧ (N' y).kids.length = (N x).kids.length ∧ ((f ((N x).num : Int)).isSome = true → (N' y).num = (N x).num) ∧ (¬ (f ((N x).num : Int)).isSome = true → M0 < (N' y).num)
def RelL (N N' : Nat → Nd) (f : Int → Option Nat) (M0 : Nat) : List Nat → List Nat → Prop
  | [], [] => True
  | x :: l, y :: l' => RowRel N N' f M0 x y ∧ RelL N N' f M0 l l'
  | _, _ => False
theorem RelL.app {N N' : Nat → Nd} {f : Int → Option Nat} {M0 : Nat} : ∀ {l l' r r' : List Nat}, RelL N N' f M0 l l' → RelL N N' f M0 r r' → RelL N N' f M0 (l ++ r) (l' ++ r')
  | [], [], _, _, _, h => h
  | x :: l, y :: l', _, _, h, h2 => ⟨h.1, RelL.app h.2 h2⟩
  | [], _ :: _, _, _, h, _ => h.elim
  | _ :: _, [], _, _, h, _ => h.elim
theorem RelL.len {N N' : Nat → Nd} {f : Int → Option Nat} {M0 : Nat} : ∀ {l l' : List Nat}, RelL N N' f M0 l l' → l'.length = l.length
  | [], [], _ => rfl
  | x :: l, y :: l', h => by rw [List.length_cons, List.length_cons, RelL.len h.2]
  | [], _ :: _, h => h.elim
  | _ :: _, [], h => h.elim
theorem RelL.at' {N N' : Nat → Nd} {f : Int → Option Nat} {M0 : Nat} : ∀ {l l' : List Nat}, RelL N N' f M0 l l' → ∀ (i x y : Nat), l[i]? = some x → l'[i]? = some y → RowRel N N' f M0 x y
  | [], [], _, i, x, y, h1, _ => by simp at h1
  | a :: l, b :: l', h, 0, x, y, h1, h2 => by
    simp only [List.getElem?_cons_zero, Option.some.injEq] at h1 h2
    subst h1 h2
    exact h.1
  | a :: l, b :: l', h, i + 1, x, y, h1, h2 => RelL.at' h.2 i x y (by simpa using h1) (by simpa using h2)
  | [], _ :: _, h, _, _, _, _, _ => h.elim
  | _ :: _, [], h, _, _, _, _, _ => h.elim
theorem RelL.congr {N N' N'' : Nat → Nd} {f : Int → Option Nat} {M0 : Nat} : ∀ {l l' : List Nat}, (∀ y ∈ l', N'' y = N' y) → RelL N N' f M0 l l' → RelL N N'' f M0 l l'
  | [], [], _, h => h
  | x :: l, y :: l', hy, h => ⟨by unfold RowRel at *; rw [hy y List.mem_cons_self]; exact h.1, RelL.congr (fun z hz => hy z (List.mem_cons_of_mem _ hz)) h.2⟩
  | [], _ :: _, _, h => h.elim
  | _ :: _, [], _, h => h.elim
/-- Each of a row is a copy. -/
def Cps (N N' : Nat → Nd) (f : Int → Option Nat) (M0 : Nat) : List Nat → List Nat → Prop
  | [], [] => True
  | c :: l, c' :: l' => (RelL N N' f M0 (wlB N [c]) (wlB N' [c']) ∧ (N' c').size = (N c).size) ∧ Cps N N' f M0 l l'
  | _, _ => False
theorem Cps.app {N N' : Nat → Nd} {f : Int → Option Nat} {M0 : Nat} : ∀ {l l' r r' : List Nat}, Cps N N' f M0 l l' → Cps N N' f M0 r r' → Cps N N' f M0 (l ++ r) (l' ++ r')
  | [], [], _, _, _, h => h
  | x :: l, y :: l', _, _, h, h2 => ⟨h.1, Cps.app h.2 h2⟩
  | [], _ :: _, _, _, h, _ => h.elim
  | _ :: _, [], _, _, h, _ => h.elim
theorem Cps.len {N N' : Nat → Nd} {f : Int → Option Nat} {M0 : Nat} : ∀ {l l' : List Nat}, Cps N N' f M0 l l' → l'.length = l.length
  | [], [], _ => rfl
  | x :: l, y :: l', h => by rw [List.length_cons, List.length_cons, Cps.len h.2]
  | [], _ :: _, h => h.elim
  | _ :: _, [], h => h.elim
theorem Cps.split {N N' : Nat → Nd} {f : Int → Option Nat} {M0 : Nat} : ∀ {l r s : List Nat}, Cps N N' f M0 (l ++ r) s → ∃ l' r', s = l' ++ r' ∧ Cps N N' f M0 l l' ∧ Cps N N' f M0 r r'
  | [], r, s, h => ⟨[], s, rfl, trivial, h⟩
  | x :: l, r, y :: s, h => by
    obtain ⟨l', r', e, h1, h2⟩ := Cps.split (l := l) h.2
    exact ⟨y :: l', r', by rw [e]; rfl, ⟨h.1, h1⟩, h2⟩
  | x :: l, r, [], h => h.elim
theorem Cps.size {N N' : Nat → Nd} {f : Int → Option Nat} {M0 : Nat} : ∀ {l l' : List Nat}, Cps N N' f M0 l l' → sizeS N' l' = sizeS N l
  | [], [], _ => rfl
  | x :: l, y :: l', h => by rw [sizeS_cons, sizeS_cons, h.1.2, Cps.size h.2]
  | [], _ :: _, h => h.elim
  | _ :: _, [], h => h.elim
theorem Cps.rel {R R' : Nat → Prop} {N N' : Nat → Nd} {B B' : Nat} {w w' : World} {f : Int → Option Nat} {M0 : Nat} (hF : Forest R N B w) (hF' : Forest R' N' B' w') : ∀ {l l' : List Nat}, (∀ p ∈ l, R p) → (∀ p ∈ l', R' p) → Cps N N' f M0 l l' → RelL N N' f M0 (wlB N l) (wlB N' l')
  | [], [], _, _, _ => by simp [wlB, wl_nil, RelL]
  | x :: l, y :: l', h1, h2, h => by
    rw [wlB_pair hF (h1 x List.mem_cons_self), wlB_pair hF' (h2 y List.mem_cons_self)]
    exact h.1.1.app (Cps.rel hF hF' (fun p hp => h1 p (List.mem_cons_of_mem _ hp)) (fun p hp => h2 p (List.mem_cons_of_mem _ hp)) h.2)
  | [], _ :: _, _, _, h => h.elim
  | _ :: _, [], _, _, h => h.elim
/-- The steps, each with its node. -/
def stpS (N : Nat → Nd) (f : Int → Option Nat) : Nat → Nat → List (OpM × Nat)
  | 0, _ => []
  | k + 1, c => if (f ((N c).num : Int)).isSome = true then [(⟨1, ((N c).num : Int), 0, 0, 0, 0, 0, 0, 0⟩, c)] else if (N c).kind = 1 then [(⟨2, 0, 0, 0, 0, (N c).l0, (N c).l1, (N c).l2, (N c).l3⟩, c)] else ((N c).kids.map Prod.fst).flatMap (stpS N f k) ++ [(mkOp (N c), c)]
theorem stpS_fst (N : Nat → Nd) (f : Int → Option Nat) : ∀ (k c : Nat), (stpS N f k c).map Prod.fst = stepsN N f k c
  | 0, _ => rfl
  | k + 1, c => by
    unfold stpS stepsN
    split
    · rfl
    · split
      · rfl
      · rw [List.map_append, List.map_flatMap]
        congr 1
        exact flat_congr _ (fun d _ => stpS_fst N f k d)
theorem stpS_in {R : Nat → Prop} {N : Nat → Nd} {B : Nat} {w : World} (hF : Forest R N B w) (f : Int → Option Nat) : ∀ (k c : Nat), R c → ∀ x ∈ stpS N f k c, R x.2
  | 0, _, _, x, hx => by simp [stpS] at hx
  | k + 1, c, hc, x, hx => by
    unfold stpS at hx
    split at hx
    · rw [List.mem_singleton.1 hx]; exact hc
    · split at hx
      · rw [List.mem_singleton.1 hx]; exact hc
      · rcases List.mem_append.1 hx with hx | hx
        · obtain ⟨d, hd, hx⟩ := List.mem_flatMap.1 hx
          exact stpS_in hF f k d (kid_R hF hc d hd) x hx
        · rw [List.mem_singleton.1 hx]; exact hc
/-- What is still to be done, and the row ahead of it. -/
def okRun (N : Nat → Nd) (f : Int → Option Nat) (fin : List Nat) : List (OpM × Nat) → List Nat → Prop
  | [], row => row = fin
  | (o, c) :: rest, row =>
    (((f ((N c).num : Int)).isSome = true ∧ o = ⟨1, ((N c).num : Int), 0, 0, 0, 0, 0, 0, 0⟩ ∧ okRun N f fin rest (row ++ [c])) ∨
     (¬ (f ((N c).num : Int)).isSome = true ∧ (N c).kind = 1 ∧ o = ⟨2, 0, 0, 0, 0, (N c).l0, (N c).l1, (N c).l2, (N c).l3⟩ ∧ okRun N f fin rest (row ++ [c])) ∨
     (¬ (f ((N c).num : Int)).isSome = true ∧ (N c).kind ≠ 1 ∧ o = mkOp (N c) ∧ ∃ r0, row = r0 ++ (N c).kids.map Prod.fst ∧ okRun N f fin rest (r0 ++ [c])))
theorem okRun_app {R : Nat → Prop} {N : Nat → Nd} {B : Nat} {w : World} (hF : Forest R N B w) (f : Int → Option Nat) (fin : List Nat) : ∀ (k c : Nat), R c → (N c).size ≤ k → ∀ (rest : List (OpM × Nat)) (row : List Nat), okRun N f fin rest (row ++ [c]) → okRun N f fin (stpS N f k c ++ rest) row
  | 0, c, hc, hk, _, _, _ => by have := (hF c hc).2.1.1; omega
  | k + 1, c, hc, hk, rest, row, h => by
    unfold stpS
    by_cases h1 : (f ((N c).num : Int)).isSome = true
    · rw [if_pos h1]
      exact Or.inl ⟨h1, rfl, h⟩
    · rw [if_neg h1]
      by_cases h2 : (N c).kind = 1
      · rw [if_pos h2]
        exact Or.inr (Or.inl ⟨h1, h2, rfl, h⟩)
      · rw [if_neg h2]
        have hsz := (hF c hc).2.2.2.2
        have key : ∀ (l : List Nat) (rest' : List (OpM × Nat)) (row' : List Nat), (∀ d ∈ l, R d ∧ (N d).size ≤ k) → okRun N f fin rest' (row' ++ l) → okRun N f fin (l.flatMap (stpS N f k) ++ rest') row' := fun l => by
          induction l with
          | nil => intro rest' row' _ h'; simpa using h'
          | cons d l ih =>
            intro rest' row' hl h'
            rw [List.flatMap_cons, List.append_assoc]
            refine okRun_app hF f fin k d (hl d List.mem_cons_self).1 (hl d List.mem_cons_self).2 _ row' (ih rest' (row' ++ [d]) (fun e he => hl e (List.mem_cons_of_mem _ he)) ?_)
            rw [List.append_assoc]
            exact h'
        rw [List.append_assoc]
        refine key _ _ row (fun d hd => ?_) (Or.inr (Or.inr ⟨h1, h2, rfl, row, rfl, h⟩))
        obtain ⟨q, hq, rfl⟩ := List.mem_map.1 hd
        obtain ⟨h4, h5⟩ := hF.kid hc hq
        exact ⟨h4, by omega⟩
  termination_by k => k
/-- The nodes of a store, as they may be. -/
def FoOk (S : List Nat) (N : Nat → Nd) (s : Nat) : Prop := ∀ b ∈ S, NdOk (N b) ∧ ((N b).kind = 1 → (N b).kids = []) ∧ (∀ q ∈ (N b).kids, q.1 ∈ S) ∧ (N b).size = 1 + sizeS N ((N b).kids.map Prod.fst) ∧ (N b).st = s
theorem FoOk.add {S : List Nat} {N : Nat → Nd} {s b : Nat} {Y : Nd} (h : FoOk S N s) (hb : b ∉ S) (h1 : NdOk Y) (h2 : Y.kind = 1 → Y.kids = []) (h3 : ∀ q ∈ Y.kids, q.1 ∈ S) (h4 : Y.size = 1 + sizeS N (Y.kids.map Prod.fst)) (h5 : Y.st = s) : FoOk (S ++ [b]) (fun d => if d = b then Y else N d) s := by
  have hold : ∀ c ∈ S, (if c = b then Y else N c) = N c := fun c hc => if_neg (fun (e : c = b) => hb (by rw [← e]; exact hc))
  have hsz : ∀ ks : List Nat, (∀ k ∈ ks, k ∈ S) → sizeS (fun d => if d = b then Y else N d) ks = sizeS N ks := fun ks hk => sizeS_cong ks (fun p hp => hold p (hk p hp))
  have hmp : ∀ l : List (Nat × Nat), (∀ q ∈ l, q.1 ∈ S) → ∀ k ∈ l.map Prod.fst, k ∈ S := fun l hl k hk => by
    obtain ⟨q, hq, rfl⟩ := List.mem_map.1 hk
    exact hl q hq
  intro c hc
  rcases List.mem_append.1 hc with hc | hc
  · obtain ⟨g1, g2, g3, g4, g5⟩ := h c hc
    dsimp only
    rw [hold c hc, hsz _ (hmp _ g3)]
    exact ⟨g1, g2, fun q hq => List.mem_append_left _ (g3 q hq), g4, g5⟩
  · rw [List.mem_singleton.1 hc]
    dsimp only
    rw [if_pos rfl, hsz _ (hmp _ h3)]
    exact ⟨h1, h2, fun q hq => List.mem_append_left _ (h3 q hq), h4, h5⟩
theorem FoOk.forest {S : List Nat} {N : Nat → Nd} {s B : Nat} {V : Nat → Prop} {w : World} (h : FoOk S N s) (hn : ∀ b ∈ S, NdV V w b (N b)) (hV : ∀ k, V k → k < B) : Forest (fun b => b ∈ S) N B w := fun b hb => by
  obtain ⟨g1, g2, g3, g4, _⟩ := h b hb
  exact ⟨(hn b hb).at hV, g1, g2, g3, g4⟩
theorem Cps.congr {S : List Nat} {N0 N N' : Nat → Nd} {s M0 : Nat} {f : Int → Option Nat} (hF : FoOk S N s) {B : Nat} {w : World} (hFo : Forest (fun b => b ∈ S) N B w) (h : ∀ b ∈ S, N' b = N b) : ∀ {l l' : List Nat}, (∀ y ∈ l', y ∈ S) → Cps N0 N f M0 l l' → Cps N0 N' f M0 l l'
  | [], [], _, hc => hc
  | x :: l, y :: l', hy, hc => by
    have hyS := hy y List.mem_cons_self
    have e : wlB N' [y] = wlB N [y] := wlB_congr (R := fun b => b ∈ S) (fun b hb q hq => (hF b hb).2.2.1 q hq) h [y] (fun p hp => by rw [List.mem_singleton.1 hp]; exact hyS)
    refine ⟨⟨?_, by rw [h y hyS]; exact hc.1.2⟩, Cps.congr hF hFo h (fun z hz => hy z (List.mem_cons_of_mem _ hz)) hc.2⟩
    rw [e]
    exact hc.1.1.congr (fun z hz => h z (wlB_in hFo _ [y] rfl (fun p hp => by rw [List.mem_singleton.1 hp]; exact hyS) z hz))
  | [], _ :: _, _, hc => hc.elim
  | _ :: _, [], _, hc => hc.elim
/-- What is asked of the nodes that the steps speak of. -/
structure SrcOk (P : List Nat) (N0 : Nat → Nd) (f : Int → Option Nat) (s : Nat) : Prop where
  fo : FoOk P N0 s
  leaf : ∀ c ∈ P, (N0 c).kind = 1 → (N0 c).n = (N0 c).l0 ∧ (N0 c).size = 1
  mky : ∀ c ∈ P, (N0 c).kind ≠ 1 → mayP (N0 c).kind (N0 c).n = true ∧ (N0 c).l1 = 0 ∧ (N0 c).l2 = 0
  kp : ∀ c ∈ P, (f ((N0 c).num : Int)).isSome = true → f ((N0 c).num : Int) = some c ∧ ∀ x ∈ wlB N0 [c], (f ((N0 x).num : Int)).isSome = true
/-- While steps are done: the rows of nodes, and of their copies. -/
def ApS (P : List Nat) (N0 : Nat → Nd) (f : Int → Option Nat) (M0 s : Nat) (S : List Nat) (N : Nat → Nd) (srow row : List Nat) : Prop := FoOk S N s ∧ (∀ b ∈ P, b ∈ S ∧ N b = N0 b) ∧ (∀ c ∈ srow, c ∈ P) ∧ (∀ c ∈ row, c ∈ S) ∧ Cps N0 N f M0 srow row
section
variable {P : List Nat} {N0 : Nat → Nd} {f : Int → Option Nat} {M0 s : Nat} {S : List Nat} {N : Nat → Nd} {srow row : List Nat} {B B0 : Nat} {w w0 : World}
theorem ApS.keep (h : ApS P N0 f M0 s S N srow row) (hS : SrcOk P N0 f s) {c : Nat} (hc : c ∈ P) (hf : (f ((N0 c).num : Int)).isSome = true) (hF0 : Forest (fun b => b ∈ P) N0 B0 w0) : ApS P N0 f M0 s S N (srow ++ [c]) (row ++ [c]) := by
  obtain ⟨h1, h2, h3, h4, h5⟩ := h
  have hP : ∀ x ∈ wlB N0 [c], x ∈ P := wlB_in hF0 _ [c] rfl (fun p hp => by rw [List.mem_singleton.1 hp]; exact hc)
  have e : wlB N [c] = wlB N0 [c] := wlB_congr (R := fun b => b ∈ P) (fun b hb q hq => (hS.fo b hb).2.2.1 q hq) (fun b hb => (h2 b hb).2) [c] (fun p hp => by rw [List.mem_singleton.1 hp]; exact hc)
  refine ⟨h1, h2, fun x hx => ?_, fun x hx => ?_, h5.app ⟨⟨?_, by rw [(h2 c hc).2]⟩, trivial⟩⟩
  · rcases List.mem_append.1 hx with hx | hx
    · exact h3 x hx
    · rw [List.mem_singleton.1 hx]; exact hc
  · rcases List.mem_append.1 hx with hx | hx
    · exact h4 x hx
    · rw [List.mem_singleton.1 hx]; exact (h2 c hc).1
  · rw [e]
    have key : ∀ l : List Nat, (∀ x ∈ l, x ∈ P ∧ (f ((N0 x).num : Int)).isSome = true) → RelL N0 N f M0 l l := fun l => by
      induction l with
      | nil => intro _; trivial
      | cons x l ih =>
        intro hl
        obtain ⟨q1, q2⟩ := hl x List.mem_cons_self
        refine ⟨?_, ih (fun y hy => hl y (List.mem_cons_of_mem _ hy))⟩
        unfold RowRel
        rw [(h2 x q1).2]
        exact ⟨rfl, rfl, rfl, rfl, rfl, fun _ => rfl, fun h => absurd q2 h⟩
    exact key _ (fun x hx => ⟨hP x hx, (hS.kp c hc hf).2 x hx⟩)
theorem ApS.leaf (h : ApS P N0 f M0 s S N srow row) (hS : SrcOk P N0 f s) {c b m : Nat} (hc : c ∈ P) (hf : ¬ (f ((N0 c).num : Int)).isSome = true) (hk : (N0 c).kind = 1) (hb : b ∉ S) (hm : M0 ≤ m) (hF0 : Forest (fun b => b ∈ P) N0 B0 w0) (hFo : Forest (fun b => b ∈ S) N B w) : ApS P N0 f M0 s (S ++ [b]) (fun d => if d = b then leafN s m (N0 c).l0 (N0 c).l1 (N0 c).l2 (N0 c).l3 else N d) (srow ++ [c]) (row ++ [b]) := by
  obtain ⟨h1, h2, h3, h4, h5⟩ := h
  have hold : ∀ d ∈ S, (if d = b then leafN s m (N0 c).l0 (N0 c).l1 (N0 c).l2 (N0 c).l3 else N d) = N d := fun d hd => if_neg (fun (e : d = b) => hb (by rw [← e]; exact hd))
  have hkids : (N0 c).kids = [] := (hS.fo c hc).2.1 hk
  obtain ⟨hn, hsz⟩ := hS.leaf c hc hk
  have e0 : wlB N0 [c] = [c] := by rw [wlB_node hF0 hc, hkids]; simp [wlB, wl_nil]
  have e1 : wlB (fun d => if d = b then leafN s m (N0 c).l0 (N0 c).l1 (N0 c).l2 (N0 c).l3 else N d) [b] = [b] := by
    unfold wlB
    have : sizeS (fun d => if d = b then leafN s m (N0 c).l0 (N0 c).l1 (N0 c).l2 (N0 c).l3 else N d) [b] = 1 := by simp [sizeS, leafN]
    rw [this]
    simp [wl]
  refine ⟨h1.add hb (leafN_ok _ _ _ _ _ _) (fun _ => rfl) (fun q hq => by simp [leafN] at hq) (by simp [leafN, sizeS]) rfl, fun d hd => ⟨List.mem_append_left _ (h2 d hd).1, (hold d (h2 d hd).1).trans (h2 d hd).2⟩, fun x hx => ?_, fun x hx => ?_, (Cps.congr h1 hFo hold h4 h5).app ⟨⟨?_, ?_⟩, trivial⟩⟩
  · rcases List.mem_append.1 hx with hx | hx
    · exact h3 x hx
    · rw [List.mem_singleton.1 hx]; exact hc
  · rcases List.mem_append.1 hx with hx | hx
    · exact List.mem_append_left _ (h4 x hx)
    · exact List.mem_append_right _ hx
  · rw [e0, e1]
    refine ⟨?_, trivial⟩
    unfold RowRel
    simp only [if_true, leafN, hk, hn, hkids]
    refine ⟨trivial, trivial, trivial, trivial, trivial, fun h => absurd h hf, fun _ => ?_⟩
    omega
  · simp [leafN, hsz]
theorem ApS.make (h : ApS P N0 f M0 s S N srow row) (hS : SrcOk P N0 f s) {c b m : Nat} {r0 q0 ks : List Nat} (hc : c ∈ P) (hf : ¬ (f ((N0 c).num : Int)).isSome = true) (hk : (N0 c).kind ≠ 1) (hb : b ∉ S) (hm : M0 ≤ m) (hF0 : Forest (fun b => b ∈ P) N0 B0 w0) (hFo : Forest (fun b => b ∈ S) N B w) (hs : srow = r0 ++ (N0 c).kids.map Prod.fst) (hr : row = q0 ++ ks) (c1 : Cps N0 N f M0 r0 q0) (c2 : Cps N0 N f M0 ((N0 c).kids.map Prod.fst) ks) : ApS P N0 f M0 s (S ++ [b]) (fun d => if d = b then makeN N s m (N0 c).kind (N0 c).n ks else N d) (r0 ++ [c]) (q0 ++ [b]) := by
  obtain ⟨h1, h2, h3, h4, h5⟩ := h
  have hold : ∀ d ∈ S, (if d = b then makeN N s m (N0 c).kind (N0 c).n ks else N d) = N d := fun d hd => if_neg (fun (e : d = b) => hb (by rw [← e]; exact hd))
  have hksS : ∀ k ∈ ks, k ∈ S := fun k hk => h4 k (by rw [hr]; exact List.mem_append_right _ hk)
  have hq0S : ∀ k ∈ q0, k ∈ S := fun k hk => h4 k (by rw [hr]; exact List.mem_append_left _ hk)
  obtain ⟨hmay, hl1, hl2⟩ := hS.mky c hc hk
  have hszs := c2.size
  have hszc := (hS.fo c hc).2.2.2.1
  have hok : ∀ k ∈ ks, NdOk (N k) := fun k hk => (h1 k (hksS k hk)).1
  have hle := (hS.fo c hc).1.2.1
  have hadd := h1.add (b := b) (Y := makeN N s m (N0 c).kind (N0 c).n ks) hb (makeN_ok hok (by omega)) (fun e => absurd e hk) (fun q hq => hksS q.1 (by
    have h9 : q.1 ∈ (makeN N s m (N0 c).kind (N0 c).n ks).kids.map Prod.fst := List.mem_map_of_mem hq
    rwa [mk_kids] at h9)) (by rw [mk_kids]; rfl) rfl
  have hk0 : ∀ p ∈ (N0 c).kids.map Prod.fst, p ∈ P := kid_R hF0 hc
  have hw : wlB (fun d => if d = b then makeN N s m (N0 c).kind (N0 c).n ks else N d) [b] = b :: wlB N ks := by
    have e1 : wlB (fun d => if d = b then makeN N s m (N0 c).kind (N0 c).n ks else N d) ks = wlB N ks := wlB_congr (R := fun d => d ∈ S) (fun d hd q hq => (h1 d hd).2.2.1 q hq) hold ks hksS
    have e2 : sizeS (fun d => if d = b then makeN N s m (N0 c).kind (N0 c).n ks else N d) ks = sizeS N ks := sizeS_cong ks (fun p hp => hold p (hksS p hp))
    rw [← e1]
    unfold wlB
    have e3 : sizeS (fun d => if d = b then makeN N s m (N0 c).kind (N0 c).n ks else N d) [b] = sizeS (fun d => if d = b then makeN N s m (N0 c).kind (N0 c).n ks else N d) ks + 1 := by
      rw [e2]
      simp [sizeS, makeN]
      omega
    rw [e3, wl, List.map_cons]
    have e4 : ((fun d => if d = b then makeN N s m (N0 c).kind (N0 c).n ks else N d) b).kids.map Prod.fst = ks := by
      simp only [if_true]
      exact mk_kids N s m _ _ ks
    rw [e4, List.append_nil]
    congr 1
    exact wl_sndB _ _ _ _ _
  refine ⟨hadd, fun d hd => ⟨List.mem_append_left _ (h2 d hd).1, (hold d (h2 d hd).1).trans (h2 d hd).2⟩, fun x hx => ?_, fun x hx => ?_, (Cps.congr h1 hFo hold hq0S c1).app ⟨⟨?_, ?_⟩, trivial⟩⟩
  · rcases List.mem_append.1 hx with hx | hx
    · exact h3 x (by rw [hs]; exact List.mem_append_left _ hx)
    · rw [List.mem_singleton.1 hx]; exact hc
  · rcases List.mem_append.1 hx with hx | hx
    · exact List.mem_append_left _ (hq0S x hx)
    · exact List.mem_append_right _ hx
  · rw [wlB_node hF0 hc, hw]
    refine ⟨?_, ?_⟩
    · unfold RowRel
      simp only [if_true, makeN, hl1, hl2, kidG_len]
      refine ⟨trivial, trivial, trivial, trivial, ?_, fun h => absurd h hf, fun _ => ?_⟩
      · have h9 := c2.len
        rw [List.length_map] at h9
        exact h9
      · omega
    · have h9 := Cps.rel hF0 hFo hk0 hksS c2
      exact h9.congr (fun y hy => hold y (wlB_in hFo _ ks rfl hksS y hy))
  · simp only [if_true, makeN]
    omega
end

end Tr
end Ex
end Go.Proofs.Yteckbpmliahhhaa
namespace Go.Proofs.Yteckbpmliahhhaa
open Go.RowKit
attribute [local go_sem] Oper.semAt_some
namespace Ex
namespace Tr

def encI (y : Int) : List Value := [.int .i64 y]
theorem encI_one (y : Int) : ∀ u ∈ encI y, u.oneCell' = true := fun u hu => by
  unfold encI at hu
  simp only [List.mem_cons, List.not_mem_nil, or_false] at hu
  subst hu
  rfl
/-- Lists of ints. -/
def iE : ElK Int := { T := 3, TT := 24, sz := 1, by_ := 8, z := .int .i64 0, enc := encI, pos := by decide, info := by kernel_rfl, zs := rfl, und := Try.underlying24, len := fun _ => rfl, one := encI_one }
theorem rowL_one (x : Nd) : ∀ u ∈ rowL x, u.oneCell' = true := fun u hu => by
  unfold rowL at hu
  simp only [List.mem_cons, List.not_mem_nil, or_false] at hu
  rcases hu with rfl | rfl | rfl | rfl | rfl | rfl <;> rfl
theorem lo_int {w : World} {base : Nat} {a : Option Addr} {L c : Nat} {l : List Int} (h : LO iE w base (.slice a L c) l) {k : Nat} {x : Int} (hx : l[k]? = some x) : ∃ g, a = some ⟨g, 0, none⟩ ∧ w.cell? ⟨g, k, none⟩ = some (.int .i64 x) := by
  obtain ⟨g, rfl⟩ := h.some (by intro e; rw [e] at hx; simp at hx)
  have h1 := h.cell (i := k) (j := 0) (x := x) (u := .int .i64 x) hx rfl
  rw [show k * iE.sz + 0 = k from by show k * 1 + 0 = k; omega] at h1
  exact ⟨g, rfl, h1⟩
/-- The rows of a tree. -/
def rowsN (N : Nat → Nd) (b : Nat) : List Nd := (walkL N b).map fun q => N q.2
theorem rowsN_at (N : Nat → Nd) (b : Nat) : rowsN N b = (wlB N [b]).map N := by
  rw [wlB_one]
  unfold rowsN
  rw [List.map_map]
  rfl
end Tr
end Ex
end Go.Proofs.Yteckbpmliahhhaa
