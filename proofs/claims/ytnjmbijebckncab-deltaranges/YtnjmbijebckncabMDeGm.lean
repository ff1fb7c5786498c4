import Derived.Test.YtnjmbijebckncabMDeGq
import Derived.Test.YtnjmbijebckncabTrHead
import Derived.Test.YtnjmbijebckncabMDeLl
import Derived.Test.YtnjmbijebckncabTrRows
namespace Go.Proofs.Ytnjmbijebckncab
open Go.RowKit
set_option linter.unusedVariables false
namespace Ex
namespace Tr

/-- The nodes of trees, the upper ones first. -/
def wlB (N : Nat → Nd) (ps : List Nat) : List Nat := (wl N (sizeS N ps) ps 0).map Prod.snd
theorem wl_sndB (N : Nat → Nd) : ∀ (f : Nat) (ps : List Nat) (a a' : Nat), (wl N f ps a).map Prod.snd = (wl N f ps a').map Prod.snd
  | 0, _, _, _ => rfl
  | _ + 1, [], _, _ => rfl
  | f + 1, b :: bs, a, a' => by
    have ih := wl_sndB N f ((N b).kids.map Prod.fst ++ bs) (a + lwid (N b)) (a' + lwid (N b))
    unfold wl
    rw [List.map_cons, List.map_cons, ih]
theorem wlB_one (N : Nat → Nd) (b : Nat) : wlB N [b] = (walkL N b).map Prod.snd := by
  unfold wlB walkL
  have e : sizeS N [b] = (N b).size := by simp [sizeS]
  rw [e]
section
variable {R : Nat → Prop} {N : Nat → Nd} {B : Nat} {w : World}
theorem wlB_cons (hF : Forest R N B w) {b : Nat} (hb : R b) (ps : List Nat) : wlB N (b :: ps) = b :: wlB N ((N b).kids.map Prod.fst ++ ps) := by
  unfold wlB
  rw [wl_step hF hb, List.map_cons, wl_sndB N _ _ (0 + lwid (N b)) 0]
theorem kid_R (hF : Forest R N B w) {b : Nat} (hb : R b) : ∀ p ∈ (N b).kids.map Prod.fst, R p := fun p hp => by
  obtain ⟨q, hq, rfl⟩ := List.mem_map.1 hp
  exact (hF b hb).2.2.2.1 q hq
theorem wlB_app (hF : Forest R N B w) : ∀ (n : Nat) (ps qs : List Nat), sizeS N ps = n → (∀ p ∈ ps, R p) → wlB N (ps ++ qs) = wlB N ps ++ wlB N qs := by
  intro n
  induction n using Nat.strongRecOn with
  | ind n ih =>
    intro ps qs hn hR
    cases ps with
    | nil => rfl
    | cons b ps =>
      have hb := hR b List.mem_cons_self
      have hsz := (hF b hb).2.2.2.2
      rw [List.cons_append, wlB_cons hF hb, wlB_cons hF hb, ← List.append_assoc, ih (sizeS N ((N b).kids.map Prod.fst ++ ps)) (by rw [← hn, sizeS_cons, sizeS_app]; omega) _ qs rfl]
      · rfl
      · intro p hp
        rcases List.mem_append.1 hp with hp | hp
        · exact kid_R hF hb p hp
        · exact hR p (List.mem_cons_of_mem _ hp)
theorem wlB_node (hF : Forest R N B w) {b : Nat} (hb : R b) : wlB N [b] = b :: wlB N ((N b).kids.map Prod.fst) := by rw [wlB_cons hF hb, List.append_nil]
theorem wlB_pair (hF : Forest R N B w) {b : Nat} (hb : R b) (ps : List Nat) : wlB N (b :: ps) = wlB N [b] ++ wlB N ps := wlB_app hF _ [b] ps rfl (fun q hq => by rw [List.mem_singleton.1 hq]; exact hb)
theorem wlB_in (hF : Forest R N B w) : ∀ (n : Nat) (ps : List Nat), sizeS N ps = n → (∀ p ∈ ps, R p) → ∀ x ∈ wlB N ps, R x := by
  intro n
  induction n using Nat.strongRecOn with
  | ind n ih =>
    intro ps hn hR x hx
    cases ps with
    | nil => simp [wlB, wl_nil] at hx
    | cons b ps =>
      have hb := hR b List.mem_cons_self
      have hsz := (hF b hb).2.2.2.2
      rw [wlB_cons hF hb] at hx
      rcases List.mem_cons.1 hx with rfl | hx
      · exact hb
      · refine ih (sizeS N ((N b).kids.map Prod.fst ++ ps)) (by rw [← hn, sizeS_cons, sizeS_app]; omega) _ rfl (fun p hp => ?_) x hx
        rcases List.mem_append.1 hp with hp | hp
        · exact kid_R hF hb p hp
        · exact hR p (List.mem_cons_of_mem _ hp)
/-- What is below something that is below is below. -/
theorem wlB_trans (hF : Forest R N B w) : ∀ (n : Nat) (ps : List Nat), sizeS N ps = n → (∀ p ∈ ps, R p) → ∀ x ∈ wlB N ps, ∀ y ∈ wlB N [x], y ∈ wlB N ps := by
  intro n
  induction n using Nat.strongRecOn with
  | ind n ih =>
    intro ps hn hR x hx y hy
    cases ps with
    | nil => simp [wlB, wl_nil] at hx
    | cons b ps =>
      have hb := hR b List.mem_cons_self
      have hsz := (hF b hb).2.2.2.2
      have hps : ∀ p ∈ (N b).kids.map Prod.fst ++ ps, R p := fun p hp => by
        rcases List.mem_append.1 hp with hp | hp
        · exact kid_R hF hb p hp
        · exact hR p (List.mem_cons_of_mem _ hp)
      have hc := wlB_cons hF hb ps
      rw [hc] at hx
      rcases List.mem_cons.1 hx with rfl | hx
      · rw [wlB_pair hF hb]
        exact List.mem_append_left _ hy
      · rw [hc]
        exact List.mem_cons_of_mem _ (ih (sizeS N ((N b).kids.map Prod.fst ++ ps)) (by rw [← hn, sizeS_cons, sizeS_app]; omega) _ rfl hps x hx y hy)
end
theorem wl_congrB {N N' : Nat → Nd} {R : Nat → Prop} (hk : ∀ b, R b → ∀ q ∈ (N b).kids, R q.1) (h : ∀ b, R b → N' b = N b) : ∀ (f : Nat) (ps : List Nat) (a : Nat), (∀ p ∈ ps, R p) → wl N' f ps a = wl N f ps a
  | 0, _, _, _ => rfl
  | _ + 1, [], _, _ => rfl
  | f + 1, b :: bs, a, hR => by
    have hb := hR b List.mem_cons_self
    unfold wl
    rw [h b hb, wl_congrB hk h f _ _ (fun p hp => by
      rcases List.mem_append.1 hp with hp | hp
      · obtain ⟨q, hq, rfl⟩ := List.mem_map.1 hp
        exact hk b hb q hq
      · exact hR p (List.mem_cons_of_mem _ hp))]
theorem sizeS_cong {N N' : Nat → Nd} : ∀ (ps : List Nat), (∀ p ∈ ps, N' p = N p) → sizeS N' ps = sizeS N ps
  | [], _ => rfl
  | p :: ps, h => by rw [sizeS_cons, sizeS_cons, h p List.mem_cons_self, sizeS_cong ps (fun q hq => h q (List.mem_cons_of_mem _ hq))]
theorem wlB_congr {N N' : Nat → Nd} {R : Nat → Prop} (hk : ∀ b, R b → ∀ q ∈ (N b).kids, R q.1) (h : ∀ b, R b → N' b = N b) (ps : List Nat) (hR : ∀ p ∈ ps, R p) : wlB N' ps = wlB N ps := by
  unfold wlB
  rw [sizeS_cong ps (fun p hp => h p (hR p hp)), wl_congrB hk h _ ps 0 hR]
/-- A node and its copy tell the same row; its number is the same, or new. -/
def RowRel (N N' : Nat → Nd) (f : Int → Option Nat) (M0 : Nat) (x y : Nat) : Prop := (N' y).kind = (N x).kind ∧ (N' y).n = (N x).n ∧ (N' y).l1 = (N x).l1 ∧ (N' y).l2 = (N x).l2 ∧ (N' y).kids.length = (N x).kids.length ∧ ((f ((N x).num : Int)).isSome = true → (N' y).num = (N x).num) ∧ (¬ (f ((N x).num : Int)).isSome = true → M0 < (N' y).num)
def RelL (N N' : Nat → Nd) (f : Int → Option Nat) (M0 : Nat) : List Nat → List Nat → Prop
  | [], [] => True
  | x :: l, y :: l' => RowRel N N' f M0 x y ∧ RelL N N' f M0 l l'
  | _, _ => False
theorem RelL.app {N N' : Nat → Nd} {f : Int → Option Nat} {M0 : Nat} : ∀ {l l' r r' : List Nat}, RelL N N' f M0 l l' → RelL N N' f M0 r r' → RelL N N' f M0 (l ++ r) (l' ++ r')
  | [], [], _, _, _, h => h
  | x :: l, y :: l', _, _, h, h2 => ⟨h.1, RelL.app h.2 h2⟩
  | [], _ :: _, _, _, h, _ => h.elim
  | _ :: _, [], _, _, h, _ => h.elim
theorem RelL.len {N N' : Nat → Nd} {f : Int → Option Nat} {M0 : Nat} : ∀ {l l' : List Nat}, RelL N N' f M0 l l' → l'.length = l.length
  | [], [], _ => rfl
  | x :: l, y :: l', h => by rw [List.length_cons, List.length_cons, RelL.len h.2]
  | [], _ :: _, h => h.elim
  | _ :: _, [], h => h.elim
theorem RelL.at' {N N' : Nat → Nd} {f : Int → Option Nat} {M0 : Nat} : ∀ {l l' : List Nat}, RelL N N' f M0 l l' → ∀ (i x y : Nat), l[i]? = some x → l'[i]? = some y → RowRel N N' f M0 x y
  | [], [], _, i, x, y, h1, _ => by simp at h1
  | a :: l, b :: l', h, 0, x, y, h1, h2 => by
    simp only [List.getElem?_cons_zero, Option.some.injEq] at h1 h2
    subst h1 h2
    exact h.1
  | a :: l, b :: l', h, i + 1, x, y, h1, h2 => RelL.at' h.2 i x y (by simpa using h1) (by simpa using h2)
  | [], _ :: _, h, _, _, _, _, _ => h.elim
  | _ :: _, [], h, _, _, _, _, _ => h.elim
theorem RelL.congr {N N' N'' : Nat → Nd} {f : Int → Option Nat} {M0 : Nat} : ∀ {l l' : List Nat}, (∀ y ∈ l', N'' y = N' y) → RelL N N' f M0 l l' → RelL N N'' f M0 l l'
  | [], [], _, h => h
  | x :: l, y :: l', hy, h => ⟨by unfold RowRel at *; rw [hy y List.mem_cons_self]; exact h.1, RelL.congr (fun z hz => hy z (List.mem_cons_of_mem _ hz)) h.2⟩
  | [], _ :: _, _, h => h.elim
  | _ :: _, [], _, h => h.elim
/-- Each of a row is a copy. -/
def Cps (N N' : Nat → Nd) (f : Int → Option Nat) (M0 : Nat) : List Nat → List Nat → Prop
  | [], [] => True
  | c :: l, c' :: l' => (RelL N N' f M0 (wlB N [c]) (wlB N' [c']) ∧ (N' c').size = (N c).size) ∧ Cps N N' f M0 l l'
  | _, _ => False
theorem Cps.app {N N' : Nat → Nd} {f : Int → Option Nat} {M0 : Nat} : ∀ {l l' r r' : List Nat}, Cps N N' f M0 l l' → Cps N N' f M0 r r' → Cps N N' f M0 (l ++ r) (l' ++ r')
  | [], [], _, _, _, h => h
  | x :: l, y :: l', _, _, h, h2 => ⟨h.1, Cps.app h.2 h2⟩
  | [], _ :: _, _, _, h, _ => h.elim
  | _ :: _, [], _, _, h, _ => h.elim
theorem Cps.len {N N' : Nat → Nd} {f : Int → Option Nat} {M0 : Nat} : ∀ {l l' : List Nat}, Cps N N' f M0 l l' → l'.length = l.length
  | [], [], _ => rfl
  | x :: l, y :: l', h => by rw [List.length_cons, List.length_cons, Cps.len h.2]
  | [], _ :: _, h => h.elim
  | _ :: _, [], h => h.elim
theorem Cps.split {N N' : Nat → Nd} {f : Int → Option Nat} {M0 : Nat} : ∀ {l r s : List Nat}, Cps N N' f M0 (l ++ r) s → ∃ l' r', s = l' ++ r' ∧ Cps N N' f M0 l l' ∧ Cps N N' f M0 r r'
  | [], r, s, h => ⟨[], s, rfl, trivial, h⟩
  | x :: l, r, y :: s, h => by
    obtain ⟨l', r', e, h1, h2⟩ := Cps.split (l := l) h.2
    exact ⟨y :: l', r', by rw [e]; rfl, ⟨h.1, h1⟩, h2⟩
  | x :: l, r, [], h => h.elim
theorem Cps.size {N N' : Nat → Nd} {f : Int → Option Nat} {M0 : Nat} : ∀ {l l' : List Nat}, Cps N N' f M0 l l' → sizeS N' l' = sizeS N l
  | [], [], _ => rfl
  | x :: l, y :: l', h => by rw [sizeS_cons, sizeS_cons, h.1.2, Cps.size h.2]
  | [], _ :: _, h => h.elim
  | _ :: _, [], h => h.elim
theorem Cps.rel {R R' : Nat → Prop} {N N' : Nat → Nd} {B B' : Nat} {w w' : World} {f : Int → Option Nat} {M0 : Nat} (hF : Forest R N B w) (hF' : Forest R' N' B' w') : ∀ {l l' : List Nat}, (∀ p ∈ l, R p) → (∀ p ∈ l', R' p) → Cps N N' f M0 l l' → RelL N N' f M0 (wlB N l) (wlB N' l')
  | [], [], _, _, _ => by simp [wlB, wl_nil, RelL]
  | x :: l, y :: l', h1, h2, h => by
    rw [wlB_pair hF (h1 x List.mem_cons_self), wlB_pair hF' (h2 y List.mem_cons_self)]
    exact h.1.1.app (Cps.rel hF hF' (fun p hp => h1 p (List.mem_cons_of_mem _ hp)) (fun p hp => h2 p (List.mem_cons_of_mem _ hp)) h.2)
  | [], _ :: _, _, _, h => h.elim
  | _ :: _, [], _, _, h => h.elim
/-- The steps, each with its node. -/
def stpS (N : Nat → Nd) (f : Int → Option Nat) : Nat → Nat → List (OpM × Nat)
  | 0, _ => []
  | k + 1, c => if (f ((N c).num : Int)).isSome = true then [(⟨1, ((N c).num : Int), 0, 0, 0, 0, 0, 0, 0⟩, c)] else if (N c).kind = 1 then [(⟨2, 0, 0, 0, 0, (N c).l0, (N c).l1, (N c).l2, (N c).l3⟩, c)] else ((N c).kids.map Prod.fst).flatMap (stpS N f k) ++ [(mkOp (N c), c)]
theorem stpS_fst (N : Nat → Nd) (f : Int → Option Nat) : ∀ (k c : Nat), (stpS N f k c).map Prod.fst = stepsN N f k c
  | 0, _ => rfl
  | k + 1, c => by
    unfold stpS stepsN
    split
    · rfl
    · split
      · rfl
      · rw [List.map_append, List.map_flatMap]
        congr 1
        exact flat_congr _ (fun d _ => stpS_fst N f k d)
theorem stpS_in {R : Nat → Prop} {N : Nat → Nd} {B : Nat} {w : World} (hF : Forest R N B w) (f : Int → Option Nat) : ∀ (k c : Nat), R c → ∀ x ∈ stpS N f k c, R x.2
  | 0, _, _, x, hx => by simp [stpS] at hx
  | k + 1, c, hc, x, hx => by
    unfold stpS at hx
    split at hx
    · rw [List.mem_singleton.1 hx]; exact hc
    · split at hx
      · rw [List.mem_singleton.1 hx]; exact hc
      · rcases List.mem_append.1 hx with hx | hx
        · obtain ⟨d, hd, hx⟩ := List.mem_flatMap.1 hx
          exact stpS_in hF f k d (kid_R hF hc d hd) x hx
        · rw [List.mem_singleton.1 hx]; exact hc
/-- What is still to be done, and the row ahead of it. -/
def okRun (N : Nat → Nd) (f : Int → Option Nat) (fin : List Nat) : List (OpM × Nat) → List Nat → Prop
  | [], row => row = fin
  | (o, c) :: rest, row =>
    (((f ((N c).num : Int)).isSome = true ∧ o = ⟨1, ((N c).num : Int), 0, 0, 0, 0, 0, 0, 0⟩ ∧ okRun N f fin rest (row ++ [c])) ∨
     (¬ (f ((N c).num : Int)).isSome = true ∧ (N c).kind = 1 ∧ o = ⟨2, 0, 0, 0, 0, (N c).l0, (N c).l1, (N c).l2, (N c).l3⟩ ∧ okRun N f fin rest (row ++ [c])) ∨
     (¬ (f ((N c).num : Int)).isSome = true ∧ (N c).kind ≠ 1 ∧ o = mkOp (N c) ∧ ∃ r0, row = r0 ++ (N c).kids.map Prod.fst ∧ okRun N f fin rest (r0 ++ [c])))
theorem okRun_app {R : Nat → Prop} {N : Nat → Nd} {B : Nat} {w : World} (hF : Forest R N B w) (f : Int → Option Nat) (fin : List Nat) : ∀ (k c : Nat), R c → (N c).size ≤ k → ∀ (rest : List (OpM × Nat)) (row : List Nat), okRun N f fin rest (row ++ [c]) → okRun N f fin (stpS N f k c ++ rest) row
  | 0, c, hc, hk, _, _, _ => by have := (hF c hc).2.1.1; omega
  | k + 1, c, hc, hk, rest, row, h => by
    unfold stpS
    by_cases h1 : (f ((N c).num : Int)).isSome = true
    · rw [if_pos h1]
      exact Or.inl ⟨h1, rfl, h⟩
    · rw [if_neg h1]
      by_cases h2 : (N c).kind = 1
      · rw [if_pos h2]
        exact Or.inr (Or.inl ⟨h1, h2, rfl, h⟩)
      · rw [if_neg h2]
        have hsz := (hF c hc).2.2.2.2
        have key : ∀ (l : List Nat) (rest' : List (OpM × Nat)) (row' : List Nat), (∀ d ∈ l, R d ∧ (N d).size ≤ k) → okRun N f fin rest' (row' ++ l) → okRun N f fin (l.flatMap (stpS N f k) ++ rest') row' := fun l => by
          induction l with
          | nil => intro rest' row' _ h'; simpa using h'
          | cons d l ih =>
            intro rest' row' hl h'
            rw [List.flatMap_cons, List.append_assoc]
            refine okRun_app hF f fin k d (hl d List.mem_cons_self).1 (hl d List.mem_cons_self).2 _ row' (ih rest' (row' ++ [d]) (fun e he => hl e (List.mem_cons_of_mem _ he)) ?_)
            rw [List.append_assoc]
            exact h'
        rw [List.append_assoc]
        refine key _ _ row (fun d hd => ?_) (Or.inr (Or.inr ⟨h1, h2, rfl, row, rfl, h⟩))
        obtain ⟨q, hq, rfl⟩ := List.mem_map.1 hd
        obtain ⟨h4, h5⟩ := hF.kid hc hq
        exact ⟨h4, by omega⟩
  termination_by k => k
/-- The nodes of a store, as they may be. -/
def FoOk (S : List Nat) (N : Nat → Nd) (s : Nat) : Prop := ∀ b ∈ S, NdOk (N b) ∧ ((N b).kind = 1 → (N b).kids = []) ∧ (∀ q ∈ (N b).kids, q.1 ∈ S) ∧ (N b).size = 1 + sizeS N ((N b).kids.map Prod.fst) ∧ (N b).st = s
theorem FoOk.add {S : List Nat} {N : Nat → Nd} {s b : Nat} {Y : Nd} (h : FoOk S N s) (hb : b ∉ S) (h1 : NdOk Y) (h2 : Y.kind = 1 → Y.kids = []) (h3 : ∀ q ∈ Y.kids, q.1 ∈ S) (h4 : Y.size = 1 + sizeS N (Y.kids.map Prod.fst)) (h5 : Y.st = s) : FoOk (S ++ [b]) (fun d => if d = b then Y else N d) s := by
  have hold : ∀ c ∈ S, (if c = b then Y else N c) = N c := fun c hc => if_neg (fun (e : c = b) => hb (by rw [← e]; exact hc))
  have hsz : ∀ ks : List Nat, (∀ k ∈ ks, k ∈ S) → sizeS (fun d => if d = b then Y else N d) ks = sizeS N ks := fun ks hk => sizeS_cong ks (fun p hp => hold p (hk p hp))
  have hmp : ∀ l : List (Nat × Nat), (∀ q ∈ l, q.1 ∈ S) → ∀ k ∈ l.map Prod.fst, k ∈ S := fun l hl k hk => by
    obtain ⟨q, hq, rfl⟩ := List.mem_map.1 hk
    exact hl q hq
  intro c hc
  rcases List.mem_append.1 hc with hc | hc
  · obtain ⟨g1, g2, g3, g4, g5⟩ := h c hc
    dsimp only
    rw [hold c hc, hsz _ (hmp _ g3)]
    exact ⟨g1, g2, fun q hq => List.mem_append_left _ (g3 q hq), g4, g5⟩
  · rw [List.mem_singleton.1 hc]
    dsimp only
    rw [if_pos rfl, hsz _ (hmp _ h3)]
    exact ⟨h1, h2, fun q hq => List.mem_append_left _ (h3 q hq), h4, h5⟩
theorem FoOk.forest {S : List Nat} {N : Nat → Nd} {s B : Nat} {V : Nat → Prop} {w : World} (h : FoOk S N s) (hn : ∀ b ∈ S, NdV V w b (N b)) (hV : ∀ k, V k → k < B) : Forest (fun b => b ∈ S) N B w := fun b hb => by
  obtain ⟨g1, g2, g3, g4, _⟩ := h b hb
  exact ⟨(hn b hb).at hV, g1, g2, g3, g4⟩
theorem Cps.congr {S : List Nat} {N0 N N' : Nat → Nd} {s M0 : Nat} {f : Int → Option Nat} (hF : FoOk S N s) {B : Nat} {w : World} (hFo : Forest (fun b => b ∈ S) N B w) (h : ∀ b ∈ S, N' b = N b) : ∀ {l l' : List Nat}, (∀ y ∈ l', y ∈ S) → Cps N0 N f M0 l l' → Cps N0 N' f M0 l l'
  | [], [], _, hc => hc
  | x :: l, y :: l', hy, hc => by
    have hyS := hy y List.mem_cons_self
    have e : wlB N' [y] = wlB N [y] := wlB_congr (R := fun b => b ∈ S) (fun b hb q hq => (hF b hb).2.2.1 q hq) h [y] (fun p hp => by rw [List.mem_singleton.1 hp]; exact hyS)
    refine ⟨⟨?_, by rw [h y hyS]; exact hc.1.2⟩, Cps.congr hF hFo h (fun z hz => hy z (List.mem_cons_of_mem _ hz)) hc.2⟩
    rw [e]
    exact hc.1.1.congr (fun z hz => h z (wlB_in hFo _ [y] rfl (fun p hp => by rw [List.mem_singleton.1 hp]; exact hyS) z hz))
  | [], _ :: _, _, hc => hc.elim
  | _ :: _, [], _, hc => hc.elim
/-- What is asked of the nodes that the steps speak of. -/
structure SrcOk (P : List Nat) (N0 : Nat → Nd) (f : Int → Option Nat) (s : Nat) : Prop where
  fo : FoOk P N0 s
  leaf : ∀ c ∈ P, (N0 c).kind = 1 → (N0 c).n = (N0 c).l0 ∧ (N0 c).size = 1
  mky : ∀ c ∈ P, (N0 c).kind ≠ 1 → mayP (N0 c).kind (N0 c).n = true ∧ (N0 c).l1 = 0 ∧ (N0 c).l2 = 0
  kp : ∀ c ∈ P, (f ((N0 c).num : Int)).isSome = true → f ((N0 c).num : Int) = some c ∧ ∀ x ∈ wlB N0 [c], (f ((N0 x).num : Int)).isSome = true
/-- While steps are done: the rows of nodes, and of their copies. -/
def ApS (P : List Nat) (N0 : Nat → Nd) (f : Int → Option Nat) (M0 s : Nat) (S : List Nat) (N : Nat → Nd) (srow row : List Nat) : Prop := FoOk S N s ∧ (∀ b ∈ P, b ∈ S ∧ N b = N0 b) ∧ (∀ c ∈ srow, c ∈ P) ∧ (∀ c ∈ row, c ∈ S) ∧ Cps N0 N f M0 srow row
section
variable {P : List Nat} {N0 : Nat → Nd} {f : Int → Option Nat} {M0 s : Nat} {S : List Nat} {N : Nat → Nd} {srow row : List Nat} {B B0 : Nat} {w w0 : World}
theorem ApS.keep (h : ApS P N0 f M0 s S N srow row) (hS : SrcOk P N0 f s) {c : Nat} (hc : c ∈ P) (hf : (f ((N0 c).num : Int)).isSome = true) (hF0 : Forest (fun b => b ∈ P) N0 B0 w0) : ApS P N0 f M0 s S N (srow ++ [c]) (row ++ [c]) := by
  obtain ⟨h1, h2, h3, h4, h5⟩ := h
  have hP : ∀ x ∈ wlB N0 [c], x ∈ P := wlB_in hF0 _ [c] rfl (fun p hp => by rw [List.mem_singleton.1 hp]; exact hc)
  have e : wlB N [c] = wlB N0 [c] := wlB_congr (R := fun b => b ∈ P) (fun b hb q hq => (hS.fo b hb).2.2.1 q hq) (fun b hb => (h2 b hb).2) [c] (fun p hp => by rw [List.mem_singleton.1 hp]; exact hc)
  refine ⟨h1, h2, fun x hx => ?_, fun x hx => ?_, h5.app ⟨⟨?_, by rw [(h2 c hc).2]⟩, trivial⟩⟩
  · rcases List.mem_append.1 hx with hx | hx
    · exact h3 x hx
    · rw [List.mem_singleton.1 hx]; exact hc
  · rcases List.mem_append.1 hx with hx | hx
    · exact h4 x hx
    · rw [List.mem_singleton.1 hx]; exact (h2 c hc).1
  · rw [e]
    have key : ∀ l : List Nat, (∀ x ∈ l, x ∈ P ∧ (f ((N0 x).num : Int)).isSome = true) → RelL N0 N f M0 l l := fun l => by
      induction l with
      | nil => intro _; trivial
      | cons x l ih =>
        intro hl
        obtain ⟨q1, q2⟩ := hl x List.mem_cons_self
        refine ⟨?_, ih (fun y hy => hl y (List.mem_cons_of_mem _ hy))⟩
        unfold RowRel
        rw [(h2 x q1).2]
        exact ⟨rfl, rfl, rfl, rfl, rfl, fun _ => rfl, fun h => absurd q2 h⟩
    exact key _ (fun x hx => ⟨hP x hx, (hS.kp c hc hf).2 x hx⟩)
theorem ApS.leaf (h : ApS P N0 f M0 s S N srow row) (hS : SrcOk P N0 f s) {c b m : Nat} (hc : c ∈ P) (hf : ¬ (f ((N0 c).num : Int)).isSome = true) (hk : (N0 c).kind = 1) (hb : b ∉ S) (hm : M0 ≤ m) (hF0 : Forest (fun b => b ∈ P) N0 B0 w0) (hFo : Forest (fun b => b ∈ S) N B w) : ApS P N0 f M0 s (S ++ [b]) (fun d => if d = b then leafN s m (N0 c).l0 (N0 c).l1 (N0 c).l2 (N0 c).l3 else N d) (srow ++ [c]) (row ++ [b]) := by
  obtain ⟨h1, h2, h3, h4, h5⟩ := h
  have hold : ∀ d ∈ S, (if d = b then leafN s m (N0 c).l0 (N0 c).l1 (N0 c).l2 (N0 c).l3 else N d) = N d := fun d hd => if_neg (fun (e : d = b) => hb (by rw [← e]; exact hd))
  have hkids : (N0 c).kids = [] := (hS.fo c hc).2.1 hk
  obtain ⟨hn, hsz⟩ := hS.leaf c hc hk
  have e0 : wlB N0 [c] = [c] := by rw [wlB_node hF0 hc, hkids]; simp [wlB, wl_nil]
  have e1 : wlB (fun d => if d = b then leafN s m (N0 c).l0 (N0 c).l1 (N0 c).l2 (N0 c).l3 else N d) [b] = [b] := by
    unfold wlB
    have : sizeS (fun d => if d = b then leafN s m (N0 c).l0 (N0 c).l1 (N0 c).l2 (N0 c).l3 else N d) [b] = 1 := by simp [sizeS, leafN]
    rw [this]
    simp [wl]
  refine ⟨h1.add hb (leafN_ok _ _ _ _ _ _) (fun _ => rfl) (fun q hq => by simp [leafN] at hq) (by simp [leafN, sizeS]) rfl, fun d hd => ⟨List.mem_append_left _ (h2 d hd).1, (hold d (h2 d hd).1).trans (h2 d hd).2⟩, fun x hx => ?_, fun x hx => ?_, (Cps.congr h1 hFo hold h4 h5).app ⟨⟨?_, ?_⟩, trivial⟩⟩
  · rcases List.mem_append.1 hx with hx | hx
    · exact h3 x hx
    · rw [List.mem_singleton.1 hx]; exact hc
  · rcases List.mem_append.1 hx with hx | hx
    · exact List.mem_append_left _ (h4 x hx)
    · exact List.mem_append_right _ hx
  · rw [e0, e1]
    refine ⟨?_, trivial⟩
    unfold RowRel
    simp only [if_true, leafN, hk, hn, hkids]
    refine ⟨trivial, trivial, trivial, trivial, trivial, fun h => absurd h hf, fun _ => ?_⟩
    omega
  · simp [leafN, hsz]
theorem ApS.make (h : ApS P N0 f M0 s S N srow row) (hS : SrcOk P N0 f s) {c b m : Nat} {r0 q0 ks : List Nat} (hc : c ∈ P) (hf : ¬ (f ((N0 c).num : Int)).isSome = true) (hk : (N0 c).kind ≠ 1) (hb : b ∉ S) (hm : M0 ≤ m) (hF0 : Forest (fun b => b ∈ P) N0 B0 w0) (hFo : Forest (fun b => b ∈ S) N B w) (hs : srow = r0 ++ (N0 c).kids.map Prod.fst) (hr : row = q0 ++ ks) (c1 : Cps N0 N f M0 r0 q0) (c2 : Cps N0 N f M0 ((N0 c).kids.map Prod.fst) ks) : ApS P N0 f M0 s (S ++ [b]) (fun d => if d = b then makeN N s m (N0 c).kind (N0 c).n ks else N d) (r0 ++ [c]) (q0 ++ [b]) := by
  obtain ⟨h1, h2, h3, h4, h5⟩ := h
  have hold : ∀ d ∈ S, (if d = b then makeN N s m (N0 c).kind (N0 c).n ks else N d) = N d := fun d hd => if_neg (fun (e : d = b) => hb (by rw [← e]; exact hd))
  have hksS : ∀ k ∈ ks, k ∈ S := fun k hk => h4 k (by rw [hr]; exact List.mem_append_right _ hk)
  have hq0S : ∀ k ∈ q0, k ∈ S := fun k hk => h4 k (by rw [hr]; exact List.mem_append_left _ hk)
  obtain ⟨hmay, hl1, hl2⟩ := hS.mky c hc hk
  have hszs := c2.size
  have hszc := (hS.fo c hc).2.2.2.1
  have hok : ∀ k ∈ ks, NdOk (N k) := fun k hk => (h1 k (hksS k hk)).1
  have hle := (hS.fo c hc).1.2.1
  have hadd := h1.add (b := b) (Y := makeN N s m (N0 c).kind (N0 c).n ks) hb (makeN_ok hok (by omega)) (fun e => absurd e hk) (fun q hq => hksS q.1 (by
    have h9 : q.1 ∈ (makeN N s m (N0 c).kind (N0 c).n ks).kids.map Prod.fst := List.mem_map_of_mem hq
    rwa [mk_kids] at h9)) (by rw [mk_kids]; rfl) rfl
  have hk0 : ∀ p ∈ (N0 c).kids.map Prod.fst, p ∈ P := kid_R hF0 hc
  have hw : wlB (fun d => if d = b then makeN N s m (N0 c).kind (N0 c).n ks else N d) [b] = b :: wlB N ks := by
    have e1 : wlB (fun d => if d = b then makeN N s m (N0 c).kind (N0 c).n ks else N d) ks = wlB N ks := wlB_congr (R := fun d => d ∈ S) (fun d hd q hq => (h1 d hd).2.2.1 q hq) hold ks hksS
    have e2 : sizeS (fun d => if d = b then makeN N s m (N0 c).kind (N0 c).n ks else N d) ks = sizeS N ks := sizeS_cong ks (fun p hp => hold p (hksS p hp))
    rw [← e1]
    unfold wlB
    have e3 : sizeS (fun d => if d = b then makeN N s m (N0 c).kind (N0 c).n ks else N d) [b] = sizeS (fun d => if d = b then makeN N s m (N0 c).kind (N0 c).n ks else N d) ks + 1 := by
      rw [e2]
      simp [sizeS, makeN]
      omega
    rw [e3, wl, List.map_cons]
    have e4 : ((fun d => if d = b then makeN N s m (N0 c).kind (N0 c).n ks else N d) b).kids.map Prod.fst = ks := by
      simp only [if_true]
      exact mk_kids N s m _ _ ks
    rw [e4, List.append_nil]
    congr 1
    exact wl_sndB _ _ _ _ _
  refine ⟨hadd, fun d hd => ⟨List.mem_append_left _ (h2 d hd).1, (hold d (h2 d hd).1).trans (h2 d hd).2⟩, fun x hx => ?_, fun x hx => ?_, (Cps.congr h1 hFo hold hq0S c1).app ⟨⟨?_, ?_⟩, trivial⟩⟩
  · rcases List.mem_append.1 hx with hx | hx
    · exact h3 x (by rw [hs]; exact List.mem_append_left _ hx)
    · rw [List.mem_singleton.1 hx]; exact hc
  · rcases List.mem_append.1 hx with hx | hx
    · exact List.mem_append_left _ (hq0S x hx)
    · exact List.mem_append_right _ hx
  · rw [wlB_node hF0 hc, hw]
    refine ⟨?_, ?_⟩
    · unfold RowRel
      simp only [if_true, makeN, hl1, hl2, kidG_len]
      refine ⟨trivial, trivial, trivial, trivial, ?_, fun h => absurd h hf, fun _ => ?_⟩
      · have h9 := c2.len
        rw [List.length_map] at h9
        exact h9
      · omega
    · have h9 := Cps.rel hF0 hFo hk0 hksS c2
      exact h9.congr (fun y hy => hold y (wlB_in hFo _ ks rfl hksS y hy))
  · simp only [if_true, makeN]
    omega
end

end Tr
end Ex
end Go.Proofs.Ytnjmbijebckncab
namespace Go.Proofs.Ytnjmbijebckncab
open Go.RowKit
attribute [local go_sem] Oper.semAt_some
namespace Ex
namespace Tr

def encI (y : Int) : List Value := [.int .i64 y]
theorem encI_one (y : Int) : ∀ u ∈ encI y, u.oneCell' = true := fun u hu => by
  unfold encI at hu
  simp only [List.mem_cons, List.not_mem_nil, or_false] at hu
  subst hu
  rfl
/-- Lists of ints. -/
def iE : ElK Int := { T := 3, TT := 49, sz := 1, by_ := 8, z := .int .i64 0, enc := encI, pos := by decide, info := by kernel_rfl, zs := rfl, und := Try.underlying49, len := fun _ => rfl, one := encI_one }
theorem rowL_one (x : Nd) : ∀ u ∈ rowL x, u.oneCell' = true := fun u hu => by
  unfold rowL at hu
  simp only [List.mem_cons, List.not_mem_nil, or_false] at hu
  rcases hu with rfl | rfl | rfl | rfl | rfl | rfl <;> rfl
/-- Lists of rows. -/
def rwE : ElK Nd := { T := 56, TT := 51, sz := 6, by_ := 48, z := .agg #[.int .i64 0, .int .i64 0, .int .i64 0, .int .i64 0, .int .i64 0, .int .i64 0], enc := rowL, pos := by decide, info := by kernel_rfl, zs := rfl, und := Try.underlying51, len := fun _ => rfl, one := rowL_one }
theorem flat_rw : ∀ l : List Nd, flatE rwE l = flatR l
  | [] => rfl
  | x :: l => by
    have ih := flat_rw l
    show rowL x ++ flatE rwE l = flatR (x :: l)
    rw [ih]
    simp [flatR]
theorem ROwn.lo {w : World} {base : Nat} {v : Value} {l : List Nd} (h : ROwn w base v l) : LO rwE w base v l := by
  unfold LO
  rw [flat_rw]
  exact h
theorem lo_row {w : World} {base : Nat} {a : Option Addr} {L c : Nat} {l : List Nd} (h : LO rwE w base (.slice a L c) l) {k : Nat} {x : Nd} (hx : l[k]? = some x) : ∃ g, a = some ⟨g, 0, none⟩ ∧ w.cell? ⟨g, k * 6, none⟩ = some (.int .i64 x.kind) ∧ w.cell? ⟨g, k * 6 + 1, none⟩ = some (.int .i64 x.n) ∧ w.cell? ⟨g, k * 6 + 2, none⟩ = some (.int .i64 x.l1) ∧ w.cell? ⟨g, k * 6 + 3, none⟩ = some (.int .i64 x.l2) ∧ w.cell? ⟨g, k * 6 + 4, none⟩ = some (.int .i64 (x.kids.length : Int)) ∧ w.cell? ⟨g, k * 6 + 5, none⟩ = some (.int .i64 (x.num : Int)) := by
  obtain ⟨g, rfl⟩ := h.some (by intro e; rw [e] at hx; simp at hx)
  exact ⟨g, rfl, h.cell (i := k) (j := 0) hx rfl, h.cell (i := k) (j := 1) hx rfl, h.cell (i := k) (j := 2) hx rfl, h.cell (i := k) (j := 3) hx rfl, h.cell (i := k) (j := 4) hx rfl, h.cell (i := k) (j := 5) hx rfl⟩
theorem lo_int {w : World} {base : Nat} {a : Option Addr} {L c : Nat} {l : List Int} (h : LO iE w base (.slice a L c) l) {k : Nat} {x : Int} (hx : l[k]? = some x) : ∃ g, a = some ⟨g, 0, none⟩ ∧ w.cell? ⟨g, k, none⟩ = some (.int .i64 x) := by
  obtain ⟨g, rfl⟩ := h.some (by intro e; rw [e] at hx; simp at hx)
  have h1 := h.cell (i := k) (j := 0) (x := x) (u := .int .i64 x) hx rfl
  rw [show k * iE.sz + 0 = k from by show k * 1 + 0 = k; omega] at h1
  exact ⟨g, rfl, h1⟩
/-- The rows of a tree. -/
def rowsN (N : Nat → Nd) (b : Nat) : List Nd := (walkL N b).map fun q => N q.2
theorem rowsN_at (N : Nat → Nd) (b : Nat) : rowsN N b = (wlB N [b]).map N := by
  rw [wlB_one]
  unfold rowsN
  rw [List.map_map]
  rfl
set_option linter.unusedSimpArgs false in
set_option maxRecDepth 100000 in
set_option maxHeartbeats 4000000 in
theorem has_is (a : Option Addr) (c L b0 : Nat) (ns : List Int) (y : Int) (w : World) (hL : ns.length = L) (hL2 : L ≤ 4194304) (h : LO iE w b0 (.slice a L c) ns) :
    Calls Try.prog 16 #[.slice a L c, .int .i64 y] w fun e w' => e = .returned (.bool (decide (y ∈ ns))) ∧ w' = w := by
  obtain ⟨r, hr⟩ : ∃ r, decide (y ∈ ns) = r := ⟨_, rfl⟩
  rw [hr]
  have HR := hide1 hr
  have HL := hide1 hL
  have H1 := hide1 h
  have hLI : (L : Int) ≤ 4194304 := by omega
  clear hL h hr
  go_enter Try.func16, Try.ntmps16
  go_wp2_with fail
  go_loopw [5] (fun v5 wr => ∃ k : Nat, k ≤ L ∧ v5 = .int .i64 (k : Int) ∧ wr = w ∧ Hid (∀ x ∈ ns.take k, ¬ x = y)) (fun v5 _ => L - (intOf v5).toNat)
  case atStart => exact ⟨0, Nat.zero_le _, rfl, rfl, fun x hx => by simp at hx⟩
  case round =>
    obtain ⟨k, hk, rfl, rfl, hI⟩ := hrel
    by_cases hkL : k < L
    · obtain ⟨x, hx⟩ : ∃ x, ns[k]? = some x := ⟨_, List.getElem?_eq_getElem (by rw [HL.out]; exact hkL)⟩
      obtain ⟨g, rfl, e0⟩ := lo_int H1.out hx
      have hkI : (k : Int) < (L : Int) := by omega
      by_cases he : x = y
      · subst he
        have hrr : true = r := by rw [← HR.out]; exact (decide_eq_true (List.mem_of_getElem? hx)).symm
        subst hrr
        clear hI hx HR
        go_wp2_with fail
        go_ret
        exact ⟨rfl, rfl⟩
      · have eB : (x == y) = false := by simp; exact he
        have HI2 : Hid (∀ z ∈ ns.take (k + 1), ¬ z = y) := fun z hz => by
          rw [List.take_add_one, hx] at hz
          rcases List.mem_append.1 hz with h | h
          · exact hI.out z h
          · simp at h
            rw [h]; exact he
        clear hI hx he
        go_wp2_with fail
        exact ⟨⟨k + 1, by omega, by simp, trivial, HI2⟩, by simp [intOf] <;> omega⟩
    · obtain rfl : k = L := by omega
      have hkI : ¬ (k : Int) < (k : Int) := by omega
      have hrr : false = r := by
        rw [← HR.out]
        refine (decide_eq_false (fun h => ?_)).symm
        have h9 := hI.out y
        rw [List.take_of_length_le (by rw [HL.out]; exact Nat.le_refl _)] at h9
        exact h9 h rfl
      subst hrr
      clear hI HR
      go_wp2_with fail
      go_ret
      exact ⟨rfl, rfl⟩
set_option linter.unusedSimpArgs false in
set_option maxRecDepth 100000 in
set_option maxHeartbeats 4000000 in
theorem numbersL_is (R : Nat → Prop) (N : Nat → Nd) (B b : Nat) (w : World) (hF : Forest R N B w) (hb : R b) (hB : B ≤ w.heap.size) :
    Calls Try.prog 13 #[.pointer (some ⟨b, 0, none⟩)] w fun e w' => (∃ v, e = .returned v ∧ LO iE w' w.heap.size v ((rowsN N b).map fun x => (x.num : Int))) ∧ Kept w w' := by
  have HRO := hide1 (rowsF_is R N B b w hF hb hB)
  have hlen : (rowsN N b).length ≤ 4194304 := by
    unfold rowsN walkL
    rw [List.length_map]
    have h2 := wl_len N (N b).size [b] 0
    have h3 := (hF b hb).2.1.2.1
    omega
  obtain ⟨rs, hrs⟩ : ∃ rs, rowsN N b = rs := ⟨_, rfl⟩
  have e9 : ((wl N (N b).size [b] 0).map fun q => N q.2) = rs := hrs
  rw [e9] at HRO
  rw [hrs] at hlen ⊢
  obtain ⟨L, hL⟩ : ∃ L, rs.length = L := ⟨_, rfl⟩
  have HL := hide1 hL
  have hLI : (L : Int) ≤ 4194304 := by omega
  clear hF hb hrs e9 hL hlen
  go_enter Try.func13, Try.ntmps13
  go_wp2_with (go_at_call 14; refine HRO.out.mono ?_; rintro e w1 ⟨⟨v1, rfl, ho1⟩, hk1⟩; replace ho1 := ho1.lo; obtain ⟨a1, c1, rfl⟩ := ho1.form; rw [HL.out] at ho1 ⊢; have HO1 := hide1 ho1; have HK1 := hide1 hk1; clear ho1 hk1)
  go_loopw [3, 5] (fun v3 v5 wr => ∃ (j : Nat) (ca : Option Addr) (cc : Nat), v3 = .slice ca j cc ∧ v5 = .int .i64 (j : Int) ∧ j ≤ L ∧ Hid (LO iE wr w1.heap.size (.slice ca j cc) ((rs.take j).map fun x => (x.num : Int)) ∧ Kept w1 wr)) (fun _ v5 _ => L - (intOf v5).toNat)
  case atStart => exact ⟨0, none, 0, rfl, rfl, Nat.zero_le _, LO.nil _ _, Kept.refl w1⟩
  case round =>
    obtain ⟨j, ca, cc, rfl, rfl, hj, hI⟩ := hrel
    by_cases hjL : j < L
    · obtain ⟨x, hx⟩ : ∃ x, rs[j]? = some x := ⟨_, List.getElem?_eq_getElem (by rw [HL.out]; exact hjL)⟩
      obtain ⟨g, rfl, _, _, _, _, _, e5⟩ := lo_row (HO1.out.keep hI.out.2) hx
      have hjI : (j : Int) < (L : Int) := by omega
      have HTK : Hid ((rs.take (j + 1)).map (fun x => (x.num : Int)) = (rs.take j).map (fun x => (x.num : Int)) ++ [(x.num : Int)]) := (by rw [List.take_add_one, hx, List.map_append]; rfl : (rs.take (j + 1)).map (fun x => (x.num : Int)) = (rs.take j).map (fun x => (x.num : Int)) ++ [(x.num : Int)])
      have HJL : Hid (((rs.take j).map fun x => (x.num : Int)).length = j) := (by rw [List.length_map, List.length_take, HL.out]; omega : ((rs.take j).map fun x => (x.num : Int)).length = j)
      have HI := hide1 hI.out
      clear hI hx
      go_wp2_with (at_builtin; refine wpl_lo (E := iE) rfl _ _ rfl w1.heap.size (.slice ca j cc) _ j HJL.out rfl (HI.out.1.keep ((Kept.refl wr).alloc _ _)) wr.heap.size (x.num : Int) rfl (World.alloc_heap_new wr _) (by show (j + 1) * 8 ≤ 140737488355328; omega) (by unfold maxLen; omega) (Nat.le_trans HI.out.2.size (alloc_le wr _)) ?_; intro g5 e5 w5 ho5 hg5 hor5 hl5; have HO5 := hide1 ho5; have HK5 := hide1 (Kept.lo (gtrans HI.out.2 ((Kept.refl wr).alloc _ _)) (HI.out.1.keep ((Kept.refl wr).alloc _ _)) hg5); clear ho5 hg5 hor5 hl5)
      exact ⟨⟨j + 1, _, _, rfl, by simp, by omega, by rw [HTK.out]; exact HO5.out, HK5.out⟩, by simp [intOf] <;> omega⟩
    · obtain rfl : j = L := by omega
      have hjI : ¬ (j : Int) < (j : Int) := by omega
      have HI := hide1 hI.out
      clear hI
      go_wp2_with fail
      go_ret
      have h9 := HI.out.1
      rw [List.take_of_length_le (by rw [HL.out]; exact Nat.le_refl _)] at h9
      exact ⟨⟨_, rfl, h9.low HK1.out.size⟩, gtrans HK1.out HI.out.2⟩

end Tr
end Ex
end Go.Proofs.Ytnjmbijebckncab
