import Derived.Test.YteckbpmliahhhaaMTrG0
import Derived.Test.YteckbpmliahhhaaTrWalk
namespace Go.Proofs.Yteckbpmliahhhaa
open Go.RowKit
attribute [local go_sem] Oper.semAt_some
namespace Ex
namespace Tr

/-- A sum over children. -/
def sumF (f : Nat → Nat) (ks : List Nat) : Nat := (ks.map f).sum
theorem sumF_take {f : Nat → Nat} {ks : List Nat} {j b : Nat} (h : ks[j]? = some b) : sumF f (ks.take (j + 1)) = sumF f (ks.take j) + f b := by
  unfold sumF
  rw [List.take_add_one, h]
  simp
theorem sumF_part (f : Nat → Nat) : ∀ (ks : List Nat) (j : Nat), sumF f (ks.take j) ≤ sumF f ks
  | [], j => by simp [sumF]
  | b :: ks, 0 => by simp [sumF]
  | b :: ks, j + 1 => by
    have := sumF_part f ks j
    simp only [sumF, List.take_succ_cons, List.map_cons, List.sum_cons] at this ⊢
    omega
theorem sizeR_mem {X : Nat → Rd} {ks : List Nat} {k : Nat} (h : k ∈ ks) : (X k).size ≤ sizeR X ks := by
  induction ks with
  | nil => cases h
  | cons b ks ih =>
    simp only [sizeR, List.map_cons, List.sum_cons] at ih ⊢
    rcases List.mem_cons.1 h with e | e
    · subst e
      omega
    · have := ih e
      omega
section
variable {w : World}
set_option linter.unusedSimpArgs false
set_option maxRecDepth 100000
end
def DrewW (w w' : World) : Prop := ∃ m, w' = w.drewN m
end Tr
end Ex
end Go.Proofs.Yteckbpmliahhhaa
namespace Go.Proofs.Yteckbpmliahhhaa
open Go.RowKit
namespace Ex
namespace Tr

/-- The program's node of a node of the document's. -/
def btw (P : List Nat) (X : Nat → Rd) (d : Nat) : Nat := at_ P (X d).place.toNat
/-- What the two nodes of a place have in common. -/
theorem twin_of {s0 s1 m0 m1 : Nat} {P Q : List Nat} {N : Nat → Nd} {X : Nat → Rd} (hT : TwinOk s0 s1 m0 m1 P Q N X) {d : Nat} (hd : d ∈ Q) : btw P X d ∈ P ∧ (N (btw P X d)).kids.map Prod.fst = (X d).kids.map (btw P X) ∧ (N (btw P X d)).kind = (X d).kind ∧ (N (btw P X d)).size = (X d).size ∧ NdOk (N (btw P X d)) ∧
    (∀ k ∈ (X d).kids, k ∈ Q) ∧ (X d).size = 1 + sizeR X (X d).kids ∧ ((X d).kind = 1 → (N (btw P X d)).width = countP (X d).l1 + countP (X d).l2 ∧ (X d).kids = []) ∧ ((X d).kind ≠ 1 → (N (btw P X d)).width = sumF (fun k => (N (btw P X k)).width) (X d).kids) ∧ (∃ i : Nat, Q[i]? = some d ∧ P[i]? = some (btw P X d) ∧ (X d).place = (i : Int)) := by
  obtain ⟨i, hi⟩ := List.getElem?_of_mem hd
  have hiQ := (List.getElem?_eq_some_iff.1 hi).1
  have hiP : i < P.length := by rw [hT.1]; exact hiQ
  obtain ⟨b, hb⟩ : ∃ b, P[i]? = some b := ⟨_, List.getElem?_eq_getElem hiP⟩
  have hp := hT.2.2.2.1 i b d hb hi
  have hpl := hp.st.1
  have hkd := hp.st.2.2.1
  have ebt : btw P X d = b := by
    unfold btw
    rw [hpl]
    exact at_some hb
  have hjs : ∀ j, j < P.length → at_ Q j ∈ Q ∧ btw P X (at_ Q j) = at_ P j := by
    intro j hj
    refine ⟨at_mem (by rw [← hT.1]; exact hj), ?_⟩
    unfold btw
    rw [(hT.pair hj).st.1]
    rfl
  rw [ebt]
  obtain ⟨h1, h2, st, s, m, _, hh⟩ := hp
  refine ⟨List.mem_of_getElem? hb, ?_⟩
  rcases hh with ⟨l0, l1, l2, l3, e1, e2⟩ | ⟨kd, n, js, hm, hj, e1, e2⟩
  · refine ⟨?_, hkd.symm, h2, h1, ?_, ?_, ?_, ?_, i, hi, hb, hpl⟩
    · rw [e1, e2]; rfl
    · intro k hk
      rw [e2] at hk
      simp [rplace, leafR] at hk
    · rw [e2]; rfl
    · intro _
      rw [e1, e2]
      exact ⟨rfl, rfl⟩
    · intro h
      rw [e2] at h
      exact absurd rfl h
  · have ek : (X d).kids = js.map (at_ Q) := by rw [e2]; rfl
    refine ⟨?_, hkd.symm, h2, h1, ?_, ?_, ?_, ?_, i, hi, hb, hpl⟩
    · rw [ek, e1]
      show (kidG N 0 (js.map (at_ P))).map Prod.fst = _
      rw [kidG_fst, List.map_map]
      exact List.map_congr_left (fun j hj' => ((hjs j (Nat.lt_trans (hj j hj') hiP)).2).symm)
    · intro k hk
      rw [ek] at hk
      obtain ⟨j, hj', rfl⟩ := List.mem_map.1 hk
      exact (hjs j (Nat.lt_trans (hj j hj') hiP)).1
    · rw [ek, e2]
      rfl
    · intro h
      rw [e2] at h
      have h' : kd = 1 := h
      have := may_cases hm
      omega
    · intro _
      rw [ek, e1]
      show widthS N (js.map (at_ P)) = _
      unfold widthS sumF
      rw [List.map_map, List.map_map]
      congr 1
      refine List.map_congr_left (fun j hj' => ?_)
      simp only [Function.comp_apply]
      rw [(hjs j (Nat.lt_trans (hj j hj') hiP)).2]
/-- The children of a node, each with its place and its path. -/
def kidsK (wd : Nat → Nat) : List Nat → Nat → Nat → List Nat → List (Nat × Nat × List Nat)
  | [], _, _, _ => []
  | k :: ks, i, a, p => (k, a, p ++ [i]) :: kidsK wd ks (i + 1) (a + wd k) p
/-- All nodes of trees with their places and paths, the upper ones first. -/
def wk (X : Nat → Rd) (wd : Nat → Nat) : Nat → List (Nat × Nat × List Nat) → List (Nat × Nat × List Nat)
  | 0, _ => []
  | _ + 1, [] => []
  | f + 1, q :: ps => q :: wk X wd f (kidsK wd (X q.1).kids 0 q.2.1 q.2.2 ++ ps)
def szK (X : Nat → Rd) (ps : List (Nat × Nat × List Nat)) : Nat := sizeR X (ps.map Prod.fst)
theorem kidsK_fst (wd : Nat → Nat) : ∀ (ks : List Nat) (i a : Nat) (p : List Nat), (kidsK wd ks i a p).map Prod.fst = ks
  | [], _, _, _ => rfl
  | k :: ks, i, a, p => by simp only [kidsK, List.map_cons, kidsK_fst wd ks]
theorem kidsK_len (wd : Nat → Nat) (ks : List Nat) (i a : Nat) (p : List Nat) : (kidsK wd ks i a p).length = ks.length := by
  have := congrArg List.length (kidsK_fst wd ks i a p)
  rwa [List.length_map] at this
theorem kidsK_at (wd : Nat → Nat) : ∀ (ks : List Nat) (i a : Nat) (p : List Nat) (j k : Nat), ks[j]? = some k → (kidsK wd ks i a p)[j]? = some (k, a + sumF wd (ks.take j), p ++ [i + j])
  | [], _, _, _, _, _, h => by simp at h
  | c :: ks, i, a, p, 0, k, h => by
    have e : c = k := by simpa using h
    subst e
    simp [kidsK, sumF]
  | c :: ks, i, a, p, j + 1, k, h => by
    have h1 := kidsK_at wd ks (i + 1) (a + wd c) p j k (by simpa using h)
    rw [kidsK, List.getElem?_cons_succ, h1]
    simp only [List.take_succ_cons, sumF, List.map_cons, List.sum_cons]
    rw [show i + 1 + j = i + (j + 1) by omega, Nat.add_assoc]
theorem szK_app (X : Nat → Rd) (ps qs : List (Nat × Nat × List Nat)) : szK X (ps ++ qs) = szK X ps + szK X qs := by simp [szK, sizeR]
theorem szK_cons (X : Nat → Rd) (q : Nat × Nat × List Nat) (ps : List (Nat × Nat × List Nat)) : szK X (q :: ps) = (X q.1).size + szK X ps := by simp [szK, sizeR]
theorem szK_kids (X : Nat → Rd) (wd : Nat → Nat) (ks : List Nat) (i a : Nat) (p : List Nat) : szK X (kidsK wd ks i a p) = sizeR X ks := by unfold szK; rw [kidsK_fst]
section
variable {R : Nat → Prop} {X : Nat → Rd} {wd : Nat → Nat} {B : Nat} {w : World}
end
/-- Trees that begin where those ahead end. -/
def ChainA (wd : Nat → Nat) : List (Nat × Nat × List Nat) → Nat → Prop
  | [], _ => True
  | q :: ps, a => q.2.1 = a ∧ ChainA wd ps (a + wd q.1)
theorem chainA_kids (wd : Nat → Nat) (ps : List (Nat × Nat × List Nat)) : ∀ (ks : List Nat) (i a : Nat) (p : List Nat), ChainA wd ps (a + sumF wd ks) → ChainA wd (kidsK wd ks i a p ++ ps) a
  | [], _, a, _, h => by simpa [sumF, kidsK] using h
  | k :: ks, i, a, p, h => by
    refine ⟨rfl, chainA_kids wd ps ks (i + 1) (a + wd k) p ?_⟩
    simp only [sumF, List.map_cons, List.sum_cons] at h ⊢
    rw [← Nat.add_assoc] at h
    exact h
/-- What both sides walk. -/
theorem wk_wl {s0 s1 m0 m1 : Nat} {P Q : List Nat} {N : Nat → Nd} {X : Nat → Rd} (hT : TwinOk s0 s1 m0 m1 P Q N X) : ∀ (f : Nat) (ps : List (Nat × Nat × List Nat)) (a : Nat), (∀ q ∈ ps, q.1 ∈ Q) → ChainA (fun d => (N (btw P X d)).width) ps a →
    (wk X (fun d => (N (btw P X d)).width) f ps).map (fun s => (s.2.1, btw P X s.1)) = wl N f (ps.map fun s => btw P X s.1) a
  | 0, _, _, _, _ => rfl
  | _ + 1, [], _, _, _ => rfl
  | f + 1, q :: ps, a, hQ, hC => by
    obtain ⟨hp, hk, hkd, hs, hok, hkQ, hsz, hl, hn, _⟩ := twin_of hT (hQ q List.mem_cons_self)
    obtain ⟨hC1, hC2⟩ := hC
    simp only [wk, wl, List.map_cons]
    rw [hC1]
    congr 1
    have e1 : (kidsK (fun d => (N (btw P X d)).width) (X q.1).kids 0 a q.2.2 ++ ps).map (fun s => btw P X s.1) = (N (btw P X q.1)).kids.map Prod.fst ++ ps.map fun s => btw P X s.1 := by
      rw [List.map_append, hk]
      congr 1
      have := congrArg (List.map (btw P X)) (kidsK_fst (fun d => (N (btw P X d)).width) (X q.1).kids 0 a q.2.2)
      rw [List.map_map] at this
      exact this
    rw [wk_wl hT f _ (a + lwid (N (btw P X q.1))) ?_ ?_, e1]
    · intro s hs'
      rcases List.mem_append.1 hs' with h | h
      · have h1 : s.1 ∈ (kidsK (fun d => (N (btw P X d)).width) (X q.1).kids 0 a q.2.2).map Prod.fst := List.mem_map.2 ⟨s, h, rfl⟩
        rw [kidsK_fst] at h1
        exact hkQ _ h1
      · exact hQ s (List.mem_cons_of_mem _ h)
    · unfold lwid
      rw [hkd]
      by_cases h1 : (X q.1).kind = 1
      · rw [if_pos h1, (hl h1).2]
        exact hC2
      · rw [if_neg h1, Nat.add_zero]
        refine chainA_kids _ _ _ _ _ _ ?_
        rw [← hn h1]
        exact hC2

end Tr
end Ex
end Go.Proofs.Yteckbpmliahhhaa
