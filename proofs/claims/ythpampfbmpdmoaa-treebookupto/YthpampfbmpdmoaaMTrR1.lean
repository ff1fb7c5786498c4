import Derived.Test.YthpampfbmpdmoaaTrH8
import Derived.Test.YthpampfbmpdmoaaTrMkN
import Derived.Test.YthpampfbmpdmoaaMTrA2
import Derived.Test.YthpampfbmpdmoaaTrA1
import Derived.RangeFuncLeaves
namespace Go.Proofs.Ythpampfbmpdmoaa
open Go.RowKit
attribute [local go_sem] Oper.semAt_some
namespace Ex
namespace Tr

/-- What last tells. -/
def LastR (P : List Nat) (N : Nat → Nd) (e : Ending) : Prop := e = .returned (.int .i64 (-1)) ∨ ∃ i b : Nat, e = .returned (.int .i64 (i : Int)) ∧ P[i]? = some b ∧ (N b).size ≤ 4000
set_option linter.unusedSimpArgs false in
set_option maxRecDepth 100000 in
set_option maxHeartbeats 4000000 in
theorem last_is (base fb s0 s1 : Nat) (V : Nat → Prop) (P Q : List Nat) (N : Nat → Nd) (X : Nat → Rd) (m0 m1 : Nat) (vP vR vB : Value) (w : World) (hM : FoM base fb s0 s1 V P Q N X m0 m1 vP vR vB w) (hT : TwinOk s0 s1 m0 m1 P Q N X) (hP : P.length ≤ 1048576) :
    Calls Try.prog 6 #[.pointer (some ⟨fb, 0, none⟩)] w fun e w' => w' = w ∧ LastR P N e := by
  obtain ⟨a, cap, rfl⟩ := hM.2.2.2.2.1.form
  have hc3 : w.cell? ⟨fb, 3, none⟩ = some (.slice a Q.length cap) := by simp [World.cell?, hM.1]
  have HM := hide1 hM
  have HT := hide1 hT
  have hQ : Q.length ≤ 1048576 := by rw [← hT.1]; exact hP
  have hQI : (Q.length : Int) ≤ 1048576 := by omega
  clear hM hT
  go_enter Try.func6, Try.ntmps6
  go_wp2_with fail
  go_loopw [3] (fun vi wr => wr = w ∧ ∃ j : Nat, j ≤ Q.length ∧ vi = .int .i64 ((j : Int) - 1)) (fun vi _ => (intOf vi + 1).toNat)
  case atStart => exact ⟨rfl, Q.length, Nat.le_refl _, by go_num⟩
  case round =>
    obtain ⟨rfl, j, hj, rfl⟩ := hrel
    rcases Nat.eq_zero_or_pos j with hz | hpos
    · subst hz
      rw [show (((0 : Nat) : Int) - 1) = -1 from rfl]
      go_wp2_with fail
      go_ret
      exact ⟨rfl, Or.inl rfl⟩
    · obtain ⟨i, rfl⟩ : ∃ i, j = i + 1 := ⟨j - 1, by omega⟩
      rw [show (((i + 1 : Nat) : Int) - 1) = (i : Int) by omega]
      obtain ⟨d, hd⟩ : ∃ d, Q[i]? = some d := ⟨_, List.getElem?_eq_getElem (by omega)⟩
      obtain ⟨b, hb⟩ : ∃ b, P[i]? = some b := ⟨_, List.getElem?_eq_getElem (by rw [HT.out.1]; omega)⟩
      obtain ⟨gq, cq, e, _, hcell⟩ := HM.out.2.2.2.2.1.cell hd
      injection e with e1 e2 e3
      subst e1 e3
      have hc9 := ((HM.out.2.2.2.2.2.2.2.2.2.2.2 d (List.mem_of_getElem? hd)).is (fun k hk => (HM.out.2.2.2.2.2.2.2.2.2.1 k hk).2.1)).cells.2.2.2
      have hp := HT.out.2.2.2.1 i b d hb hd
      have hsz := hp.2.1
      have hle := hp.1.2.1
      obtain ⟨z, hz⟩ : ∃ z, (X d).size = z := ⟨_, rfl⟩
      rw [hz] at hc9 hsz
      rw [hsz] at hle
      have HSZ := hide1 hsz
      have HB := hide1 hb
      have hiI : (i : Int) < (Q.length : Int) := by omega
      clear hp hz hb hd hsz
      by_cases hq : z ≤ 4000
      · have hqI : (z : Int) ≤ 4000 := by omega
        go_wp2_with fail
        go_ret
        exact ⟨rfl, Or.inr ⟨i, b, rfl, HB.out, by rw [HSZ.out]; exact hq⟩⟩
      · have hqI : ¬ (z : Int) ≤ 4000 := by omega
        go_wp2_with fail
        go_roundw
        case rel => exact ⟨by first | rfl | trivial, i, by omega, by go_num⟩
        case measure => simp [intOf]

end Tr
end Ex
end Go.Proofs.Ythpampfbmpdmoaa
namespace Go.Proofs.Ythpampfbmpdmoaa
open Go.RowKit
attribute [local go_sem] Oper.semAt_some
namespace Ex
namespace Tr

/-- Rows that may be read. -/
def RowsRd (w : World) (v : Value) (l : List Nd) : Prop := ∃ a cap, v = .slice a l.length cap ∧ l.length ≤ 4194304 ∧ ∀ (i : Nat) (x : Nd), l[i]? = some x → ∃ g, a = some ⟨g, 0, none⟩ ∧ ∀ (j : Nat) (u : Value), (rowL x)[j]? = some u → w.cell? ⟨g, i * 6 + j, none⟩ = some u
theorem RowsRd.keep {w w' : World} {v : Value} {l : List Nd} (h : RowsRd w v l) (hk : Kept w w') : RowsRd w' v l := by
  obtain ⟨a, cap, h1, h2, h3⟩ := h
  refine ⟨a, cap, h1, h2, fun i x hx => ?_⟩
  obtain ⟨g, h4, h5⟩ := h3 i x hx
  exact ⟨g, h4, fun j u hu => grown_cell hk (h5 j u hu)⟩
theorem flatR_at : ∀ (l : List Nd) (i : Nat) (x : Nd), l[i]? = some x → ∀ (j : Nat) (u : Value), (rowL x)[j]? = some u → (flatR l)[i * 6 + j]? = some u
  | [], i, x, h => by simp at h
  | y :: l, 0, x, h => by
    intro j u hu
    have e : y = x := by simpa using h
    subst e
    have hj : j < 6 := (List.getElem?_eq_some_iff.1 hu).1
    have e2 : flatR (y :: l) = rowL y ++ flatR l := rfl
    rw [e2, Nat.zero_mul, Nat.zero_add, List.getElem?_append_left (by exact hj)]
    exact hu
  | y :: l, i + 1, x, h => by
    intro j u hu
    have h1 := flatR_at l i x (by simpa using h) j u hu
    have e2 : flatR (y :: l) = rowL y ++ flatR l := rfl
    have e3 : (rowL y).length = 6 := rfl
    rw [e2, List.getElem?_append_right (by rw [e3]; omega), e3, show (i + 1) * 6 + j - 6 = i * 6 + j by omega]
    exact h1
theorem ROwn.rd {w : World} {base : Nat} {v : Value} {l : List Nd} (h : ROwn w base v l) (hl : l.length ≤ 4194304) : RowsRd w v l := by
  rcases h.2 with ⟨rfl, h0⟩ | ⟨g, cap, cur, rfl, hb, hg, hc, _, _, hx⟩
  · have : l = [] := List.length_eq_zero_iff.1 h0
    subst this
    exact ⟨none, 0, rfl, by simp, fun i x hx => by simp at hx⟩
  · exact ⟨_, cap, rfl, hl, fun i x hi => ⟨g, rfl, fun j u hu => row_cells hg hx _ _ (flatR_at l i x hi j u hu)⟩⟩
set_option linter.unusedSimpArgs false in
set_option maxRecDepth 100000 in
set_option maxHeartbeats 4000000 in
theorem sameRows_is (va vb : Value) (l l' : List Nd) (w : World) (ha : RowsRd w va l) (hb : RowsRd w vb l') (he : l.map rowL = l'.map rowL) :
    Calls Try.prog 15 #[va, vb] w fun e w' => e = .returned (.bool true) ∧ Kept w w' := by
  have hlen : l.length = l'.length := by have := congrArg List.length he; simpa using this
  obtain ⟨aa, ca, rfl, hla, hra⟩ := ha
  obtain ⟨ab, cb, rfl, hlb, hrb⟩ := hb
  rw [← hlen]
  have hlI : (l.length : Int) ≤ 4194304 := by omega
  have HA := hide1 hra
  have HB := hide1 hrb
  have HE := hide1 he
  have HL := hide1 hlen
  clear hra hrb he hlen hlb
  go_enter Try.func15, Try.ntmps15
  go_wp2_with fail
  go_loopw [5] (fun vi wr => ∃ j : Nat, j ≤ l.length ∧ vi = .int .i64 (j : Int) ∧ Hid (Kept w wr)) (fun vi _ => l.length - (intOf vi).toNat)
  case atStart => exact ⟨0, Nat.zero_le _, rfl, Kept.refl _⟩
  case round =>
    obtain ⟨j, hj, rfl, HK⟩ := hrel
    by_cases hlt : j < l.length
    · obtain ⟨x, hx⟩ : ∃ x, l[j]? = some x := ⟨_, List.getElem?_eq_getElem hlt⟩
      obtain ⟨y, hy⟩ : ∃ y, l'[j]? = some y := ⟨_, List.getElem?_eq_getElem (by rw [← HL.out]; exact hlt)⟩
      have hxy : rowL y = rowL x := by
        have h1 := congrArg (fun q : List (List Value) => q[j]?) HE.out
        simp only [List.getElem?_map, hx, hy, Option.map_some, Option.some.injEq] at h1
        exact h1.symm
      obtain ⟨ga, rfl, hca⟩ := HA.out j x hx
      obtain ⟨gb, rfl, hcb⟩ := HB.out j y hy
      rw [hxy] at hcb
      have a0 := keeps (hca 0 _ rfl)
      have a1 := keeps (hca 1 _ rfl)
      have a2 := keeps (hca 2 _ rfl)
      have a3 := keeps (hca 3 _ rfl)
      have a4 := keeps (hca 4 _ rfl)
      have a5 := keeps (hca 5 _ rfl)
      have b0 := keeps (hcb 0 _ rfl)
      have b1 := keeps (hcb 1 _ rfl)
      have b2 := keeps (hcb 2 _ rfl)
      have b3 := keeps (hcb 3 _ rfl)
      have b4 := keeps (hcb 4 _ rfl)
      have b5 := keeps (hcb 5 _ rfl)
      replace a0 := a0 _ HK.out
      replace a1 := a1 _ HK.out
      replace a2 := a2 _ HK.out
      replace a3 := a3 _ HK.out
      replace a4 := a4 _ HK.out
      replace a5 := a5 _ HK.out
      replace b0 := b0 _ HK.out
      replace b1 := b1 _ HK.out
      replace b2 := b2 _ HK.out
      replace b3 := b3 _ HK.out
      replace b4 := b4 _ HK.out
      replace b5 := b5 _ HK.out
      simp only [Nat.add_zero] at a0 b0
      have hjI : (j : Int) < (l.length : Int) := by omega
      clear hca hcb hxy hx hy
      go_upto_region 6 with fail
      go_quiet (fail)
      go_wp2_with fail
      go_roundw
      case rel => exact ⟨j + 1, by omega, by go_num, gtrans HK.out (drewN_kept _ _)⟩
      case measure => simp [intOf]; omega
    · have hjL : j = l.length := by omega
      subst hjL
      go_wp2_with fail
      go_ret
      exact ⟨rfl, HK.out⟩

end Tr
end Ex
end Go.Proofs.Ythpampfbmpdmoaa
namespace Go.Proofs.Ythpampfbmpdmoaa
open Go.RowKit
attribute [local go_sem] Oper.semAt_some
namespace Ex
namespace Tr

theorem wpl_row {ops : Array Oper} {rest : List Oper} {o : Oper} {a : Act} {Q : Exit → Act → World → Prop} (hgd : o.guard = none) (s x : Operand) (ho : o.op = .call { callee := .builtin .append, args := #[s, x], argTypes := #[63, 63] }) (w : World)
    (base : Nat) (v : Value) (l : List Nd) (m : Nat) (hm : l.length = m) (hs : a.eval s = v) (hown : ROwn w base v l) (lb : Nat) (y : Nd) (hx : a.eval x = .slice (some ⟨lb, 0, none⟩) 1 1) (hbx : w.heap[lb]? = some (.cells (rowL y).toArray 88 (0, 0))) (hl : l.length ≤ 4194304) (hbase : base ≤ w.heap.size)
    (h : ∀ g cap w', ROwn w' base (.slice (some ⟨g, 0, none⟩) (m + 1) cap) (l ++ [y]) → w.grownBy w' v.ownBlock → (v.ownBlock = some g ∨ g = w.heap.size) → g < w'.heap.size → wpList Try.prog ops Q rest (a.put o.dst (.slice (some ⟨g, 0, none⟩) (m + 1) cap)) w') :
    wpList Try.prog ops Q (o :: rest) a w := by
  obtain ⟨i0, hi, hz0, hz1, hz2⟩ := info_parts rowt_info
  subst hm
  refine wpList_append_lies w hgd s x 63 ho base 88 i0 _ 6 48 Try.underlying63 hi hz0 hz1 hz2 rfl (by decide) v l.length (flatR l) hs hown ⟨lb, 0, none⟩ 1 1 (rowL y) hx rfl ?_ ?_ (by decide) (by unfold maxLen; omega) (by omega) hbase w.heap.size rfl ?_
  · intro j u hj
    have hj2 : j < 6 := (List.getElem?_eq_some_iff.1 hj).1
    match j, hj2 with
    | 0, _ => rw [← hj]; simp [World.cell?, Addr.add, hbx]
    | 1, _ => rw [← hj]; simp [World.cell?, Addr.add, hbx]
    | 2, _ => rw [← hj]; simp [World.cell?, Addr.add, hbx]
    | 3, _ => rw [← hj]; simp [World.cell?, Addr.add, hbx]
    | 4, _ => rw [← hj]; simp [World.cell?, Addr.add, hbx]
    | 5, _ => rw [← hj]; simp [World.cell?, Addr.add, hbx]
  · intro u hu
    simp only [rowL, List.mem_cons, List.not_mem_nil, or_false] at hu
    rcases hu with rfl | rfl | rfl | rfl | rfl | rfl <;> rfl
  · intro g cap w' h1 h2 h3 h4
    refine h g cap w' ?_ h2 h3 h4
    unfold ROwn
    rw [flatR_app, List.length_append]
    exact h1
theorem ROwn.form {w : World} {base : Nat} {v : Value} {l : List Nd} (h : ROwn w base v l) : ∃ a c, v = .slice a l.length c := by
  rcases h.2 with ⟨rfl, h0⟩ | ⟨g, cap, cur, rfl, _⟩
  · exact ⟨none, 0, by rw [h0]⟩
  · exact ⟨_, _, rfl⟩
/-- A row without its number. -/
def noId (x : Nd) : Nd := { x with num := 0 }

end Tr
end Ex
end Go.Proofs.Ythpampfbmpdmoaa
namespace Go.Proofs.Ythpampfbmpdmoaa
open Go.RowKit
namespace Ex
namespace Tr

/-- How a node came to be. -/
def MadeOk (N : Nat → Nd) (b : Nat) : Prop := (∃ s m l0 l1 l2 l3, N b = leafN s m l0 l1 l2 l3) ∨ (∃ s m kd n ks, mayP kd n = true ∧ N b = makeN N s m kd n ks)
theorem made_of {s0 s1 m0 m1 : Nat} {P Q : List Nat} {N : Nat → Nd} {X : Nat → Rd} (hT : TwinOk s0 s1 m0 m1 P Q N X) {b : Nat} (hb : b ∈ P) : MadeOk N b ∧ NdOk (N b) ∧ ((N b).kind = 1 → (N b).kids = []) ∧ (∀ q ∈ (N b).kids, q.1 ∈ P) ∧ (N b).size = 1 + sizeS N ((N b).kids.map Prod.fst) := by
  obtain ⟨i, hi⟩ := List.getElem?_of_mem hb
  obtain ⟨d, hd⟩ : ∃ d, Q[i]? = some d := ⟨_, List.getElem?_eq_getElem (by rw [← hT.1]; exact (List.getElem?_eq_some_iff.1 hi).1)⟩
  have hiP := (List.getElem?_eq_some_iff.1 hi).1
  obtain ⟨h1, _, st, s, m, _, hh⟩ := hT.2.2.2.1 i b d hi hd
  rcases hh with ⟨l0, l1, l2, l3, e, _⟩ | ⟨kd, n, js, hm, hj, e, _⟩
  · refine ⟨Or.inl ⟨s, m, l0, l1, l2, l3, e⟩, h1, ?_, ?_, ?_⟩
    · intro _; rw [e]; rfl
    · intro q hq; rw [e] at hq; simp [leafN] at hq
    · rw [e]; rfl
  · refine ⟨Or.inr ⟨s, m, kd, n, _, hm, e⟩, h1, ?_, ?_, ?_⟩
    · intro h
      rw [e] at h
      have := may_cases hm
      have h2 : kd = 1 := h
      omega
    · intro q hq
      rw [e] at hq
      have h2 : q.1 ∈ (kidG N 0 (js.map (at_ P))).map Prod.fst := List.mem_map.2 ⟨q, hq, rfl⟩
      rw [kidG_fst] at h2
      obtain ⟨j, hj1, hj2⟩ := List.mem_map.1 h2
      rw [← hj2]
      exact at_mem (Nat.lt_trans (hj j hj1) hiP)
    · rw [e]
      show 1 + sizeS N _ = 1 + sizeS N ((kidG N 0 (js.map (at_ P))).map Prod.fst)
      rw [kidG_fst]
theorem forest_of {base fb s0 s1 : Nat} {V : Nat → Prop} {P Q : List Nat} {N : Nat → Nd} {X : Nat → Rd} {m0 m1 : Nat} {vP vR vB : Value} {w : World} (hM : FoM base fb s0 s1 V P Q N X m0 m1 vP vR vB w) (hT : TwinOk s0 s1 m0 m1 P Q N X) : Forest (fun b => b ∈ P) N w.heap.size w := fun b hb =>
  ⟨(hM.2.2.2.2.2.2.2.2.2.2.1 b hb).at (fun k hk => (hM.2.2.2.2.2.2.2.2.2.1 k hk).2.1), (made_of hT hb).2⟩

/-- The rows of a list of trees, without their numbers. -/
def rowsL (N : Nat → Nd) (ps : List Nat) : List (List Value) := (wl N (sizeS N ps) ps 0).map fun q => rowL (noId (N q.2))
theorem wl_snd (N : Nat → Nd) : ∀ (f : Nat) (ps : List Nat) (a a' : Nat), (wl N f ps a).map Prod.snd = (wl N f ps a').map Prod.snd
  | 0, ps, a, a' => by cases ps <;> rfl
  | f + 1, [], a, a' => rfl
  | f + 1, b :: ps, a, a' => by
    simp only [wl, List.map_cons]
    rw [wl_snd N f _ (a + lwid (N b)) (a' + lwid (N b))]
theorem wl_rows (N : Nat → Nd) (f : Nat) (ps : List Nat) (a a' : Nat) : (wl N f ps a).map (fun q => rowL (noId (N q.2))) = (wl N f ps a').map fun q => rowL (noId (N q.2)) := by
  have h := congrArg (List.map fun b => rowL (noId (N b))) (wl_snd N f ps a a')
  rw [List.map_map, List.map_map] at h
  exact h
section
variable {R : Nat → Prop} {N : Nat → Nd} {B : Nat} {w : World}
theorem rowsL_nil : rowsL N [] = [] := rfl
theorem rowsL_cons (hF : Forest R N B w) {b : Nat} (hb : R b) (ps : List Nat) : rowsL N (b :: ps) = rowL (noId (N b)) :: rowsL N ((N b).kids.map Prod.fst ++ ps) := by
  unfold rowsL
  rw [wl_step hF hb, List.map_cons, wl_rows N _ _ (0 + lwid (N b)) 0]
theorem rowsL_app (hF : Forest R N B w) : ∀ (n : Nat) (ps qs : List Nat), sizeS N ps = n → (∀ p ∈ ps, R p) → rowsL N (ps ++ qs) = rowsL N ps ++ rowsL N qs := by
  intro n
  induction n using Nat.strongRecOn with
  | ind n ih =>
    intro ps qs hn hR
    cases ps with
    | nil => rfl
    | cons b ps =>
      have hb := hR b List.mem_cons_self
      have hsz := (hF b hb).2.2.2.2
      rw [List.cons_append, rowsL_cons hF hb, rowsL_cons hF hb, ← List.append_assoc, ih (sizeS N ((N b).kids.map Prod.fst ++ ps)) (by rw [← hn, sizeS_cons, sizeS_app]; omega) _ qs rfl]
      · rfl
      · intro p hp
        rcases List.mem_append.1 hp with hp | hp
        · obtain ⟨q, hq, rfl⟩ := List.mem_map.1 hp
          exact (hF b hb).2.2.2.1 q hq
        · exact hR p (List.mem_cons_of_mem _ hp)
end
/-- Two trees that tell the same. -/
def Same (N M : Nat → Nd) (b b' : Nat) : Prop := rowsL N [b] = rowsL M [b'] ∧ (N b).width = (M b').width ∧ (N b).leafs = (M b').leafs ∧ (N b).size = (M b').size ∧ (N b).failed = (M b').failed
/-- Two lists of them, one by one. -/
def Sames (N M : Nat → Nd) : List Nat → List Nat → Prop
  | [], [] => True
  | b :: ps, b' :: ps' => Same N M b b' ∧ Sames N M ps ps'
  | _, _ => False
theorem Sames.len {N M : Nat → Nd} : ∀ {ps ps' : List Nat}, Sames N M ps ps' → ps.length = ps'.length
  | [], [], _ => rfl
  | b :: ps, b' :: ps', h => by simp [Sames.len h.2]
  | [], _ :: _, h => h.elim
  | _ :: _, [], h => h.elim
theorem Sames.sums {N M : Nat → Nd} : ∀ {ps ps' : List Nat}, Sames N M ps ps' → sizeS N ps = sizeS M ps' ∧ widthS N ps = widthS M ps' ∧ leafS N ps = leafS M ps' ∧ ∀ fl, failS N fl ps = failS M fl ps'
  | [], [], _ => ⟨rfl, rfl, rfl, fun _ => rfl⟩
  | b :: ps, b' :: ps', h => by
    obtain ⟨h1, h2, h3, h4⟩ := Sames.sums h.2
    obtain ⟨_, e2, e3, e4, e5⟩ := h.1
    simp only [sizeS, widthS, leafS, List.map_cons, List.sum_cons] at h1 h2 h3 ⊢
    refine ⟨by omega, by omega, by omega, fun fl => ?_⟩
    have := h4 false
    simp only [failS, List.any_cons, Bool.false_or, e5] at this ⊢
    rw [this]
  | [], _ :: _, h => h.elim
  | _ :: _, [], h => h.elim
theorem Sames.rows {R R' : Nat → Prop} {N M : Nat → Nd} {B B' : Nat} {w w' : World} (hF : Forest R N B w) (hF' : Forest R' M B' w') : ∀ {ps ps' : List Nat}, Sames N M ps ps' → (∀ p ∈ ps, R p) → (∀ p ∈ ps', R' p) → rowsL N ps = rowsL M ps'
  | [], [], _, _, _ => rfl
  | b :: ps, b' :: ps', h, hR, hR' => by
    have h1 := Sames.rows hF hF' h.2 (fun p hp => hR p (List.mem_cons_of_mem _ hp)) (fun p hp => hR' p (List.mem_cons_of_mem _ hp))
    have e1 := rowsL_app hF _ [b] ps rfl (fun p hp => by rw [List.mem_singleton.1 hp]; exact hR b List.mem_cons_self)
    have e2 := rowsL_app hF' _ [b'] ps' rfl (fun p hp => by rw [List.mem_singleton.1 hp]; exact hR' b' List.mem_cons_self)
    show rowsL N ([b] ++ ps) = rowsL M ([b'] ++ ps')
    rw [e1, e2, h1, h.1.1]
  | [], _ :: _, h, _, _ => h.elim
  | _ :: _, [], h, _, _ => h.elim
theorem Sames.split {N M : Nat → Nd} : ∀ {ks ps ss : List Nat}, Sames N M (ks ++ ps) ss → ∃ s1 s2, ss = s1 ++ s2 ∧ Sames N M ks s1 ∧ Sames N M ps s2
  | [], ps, ss, h => ⟨[], ss, rfl, trivial, h⟩
  | k :: ks, ps, [], h => h.elim
  | k :: ks, ps, s :: ss, h => by
    obtain ⟨s1, s2, e, h1, h2⟩ := Sames.split (ks := ks) h.2
    exact ⟨s :: s1, s2, by rw [e]; rfl, ⟨h.1, h1⟩, h2⟩
/-- What is pending behind k rows. -/
def pendI (N : Nat → Nd) : Nat → List Nat → List Nat
  | 0, ps => ps
  | _ + 1, [] => []
  | k + 1, b :: ps => pendI N k ((N b).kids.map Prod.fst ++ ps)
theorem pendI_wl {R : Nat → Prop} {N : Nat → Nd} {B : Nat} {w : World} (hF : Forest R N B w) : ∀ (k : Nat) (ps : List Nat) (a : Nat), (∀ p ∈ ps, R p) → k < sizeS N ps → ∃ b t, pendI N k ps = b :: t ∧ pendI N (k + 1) ps = (N b).kids.map Prod.fst ++ t ∧ R b ∧ (∀ p ∈ t, R p) ∧ ((wl N (sizeS N ps) ps a).map fun q => N q.2)[k]? = some (N b)
  | k, [], a, _, h => by simp [sizeS] at h
  | 0, b :: ps, a, hR, h => by
    have hb := hR b List.mem_cons_self
    refine ⟨b, ps, rfl, rfl, hb, fun p hp => hR p (List.mem_cons_of_mem _ hp), ?_⟩
    rw [wl_step hF hb]
    rfl
  | k + 1, b :: ps, a, hR, h => by
    have hb := hR b List.mem_cons_self
    have hsz := (hF b hb).2.2.2.2
    obtain ⟨c, t, h1, h2, h3, h4, h5⟩ := pendI_wl hF k ((N b).kids.map Prod.fst ++ ps) (a + lwid (N b)) (fun p hp => by
      rcases List.mem_append.1 hp with hp | hp
      · obtain ⟨q, hq, rfl⟩ := List.mem_map.1 hp
        exact (hF b hb).2.2.2.1 q hq
      · exact hR p (List.mem_cons_of_mem _ hp)) (by rw [sizeS_cons] at h; rw [sizeS_app]; omega)
    refine ⟨c, t, h1, h2, h3, h4, ?_⟩
    rw [wl_step hF hb, List.map_cons, List.getElem?_cons_succ]
    exact h5
theorem pendI_end {R : Nat → Prop} {N : Nat → Nd} {B : Nat} {w : World} (hF : Forest R N B w) : ∀ (k : Nat) (ps : List Nat), (∀ p ∈ ps, R p) → k = sizeS N ps → pendI N k ps = []
  | 0, [], _, _ => rfl
  | k + 1, [], _, h => by simp [sizeS] at h
  | 0, b :: ps, hR, h => by
    have hsz := (hF b (hR b List.mem_cons_self)).2.2.2.2
    rw [sizeS_cons] at h
    omega
  | k + 1, b :: ps, hR, h => by
    have hb := hR b List.mem_cons_self
    have hsz := (hF b hb).2.2.2.2
    refine pendI_end hF k _ (fun p hp => ?_) (by rw [sizeS_cons] at h; rw [sizeS_app]; omega)
    rcases List.mem_append.1 hp with hp | hp
    · obtain ⟨q, hq, rfl⟩ := List.mem_map.1 hp
      exact (hF b hb).2.2.2.1 q hq
    · exact hR p (List.mem_cons_of_mem _ hp)

end Tr
end Ex
end Go.Proofs.Ythpampfbmpdmoaa
namespace Go.Proofs.Ythpampfbmpdmoaa
open Go.RowKit
attribute [local go_sem] Oper.semAt_some
namespace Ex
namespace Tr

section
variable {w : World} {R : Ending → World → Prop}
set_option linter.unusedSimpArgs false
set_option maxRecDepth 100000
theorem right_of {C : Nat} (h : Calls Try.prog 48 #[.pointer (some ⟨C, 0, none⟩), .int .i64 1] w fun e w' => ∃ b, e = .returned (.bool b) ∧ R e w') : Calls Try.prog 25 #[.pointer (some ⟨C, 0, none⟩)] w R := by
  have H := hide1 h
  clear h
  go_enter Try.func25, Try.ntmps25
  go_wp2_with (go_at_call 48; refine H.out.mono ?_; rintro e w1 ⟨b, rfl, h1⟩; have H1 := hide1 h1; clear h1)
  exact H1.out
theorem left_of {C : Nat} (h : Calls Try.prog 48 #[.pointer (some ⟨C, 0, none⟩), .int .i64 (-1)] w fun e w' => ∃ b, e = .returned (.bool b) ∧ R e w') : Calls Try.prog 27 #[.pointer (some ⟨C, 0, none⟩)] w R := by
  have H := hide1 h
  clear h
  go_enter Try.func27, Try.ntmps27
  go_wp2_with (go_at_call 48; refine H.out.mono ?_; rintro e w1 ⟨b, rfl, h1⟩; have H1 := hide1 h1; clear h1)
  exact H1.out
theorem aside_top (C : Nat) (wa : Option Addr) (wc : Nat) (by_ : Int) (h : CurAt w C (.slice wa 1 wc)) : Calls Try.prog 48 #[.pointer (some ⟨C, 0, none⟩), .int .i64 by_] w fun e w' => e = .returned (.bool false) ∧ w' = w := by
  have HAT := hide1 (atTop_is C wa 1 wc w h (by omega))
  clear h
  go_enter Try.func48, Try.ntmps48
  go_wp2_with (go_at_call 47; refine HAT.out.mono ?_; rintro e w1 ⟨rfl, hw1⟩; have hw1 := hw1.symm; subst hw1)
  go_ret
  exact ⟨rfl, rfl⟩
end
/-- A cursor that was made behind W and does not touch the blocks Z, and what it stands on. -/
def CurZ (Z : Nat → Prop) (W w : World) (C : Nat) (wy : List (Nat × Nat × Nat)) : Prop :=
  Kept W w ∧ W.heap.size ≤ C ∧ ¬ Z C ∧ ∃ wv, CurAt w C wv ∧ SOwn w W.heap.size wv wy ∧ ∀ d, wv.ownBlock = some d → d ≠ C ∧ ¬ Z d
section
variable {Z : Nat → Prop} {W w w' : World} {C : Nat} {wy pre : List (Nat × Nat × Nat)} {p q : Nat × Nat × Nat} {R : Nat → Prop} {N : Nat → Nd} {B top : Nat}
theorem CurZ.keep (h : CurZ Z W w C wy) (hk : Kept w w') : CurZ Z W w' C wy := by
  obtain ⟨h1, h2, h3, wv, h4, h5, h6⟩ := h
  exact ⟨gtrans h1 hk, h2, h3, wv, h4.keep hk, h5.keep hk, h6⟩
theorem CurZ.toP (h : CurZ Z W w C wy) : CurP W w C wy := by
  obtain ⟨h1, h2, h3, wv, h4, h5, h6⟩ := h
  exact ⟨h1, h2, wv, h4, h5, fun d hd => (h6 d hd).1⟩
/-- What a move leaves. -/
theorem CurZ.go {wy' : List (Nat × Nat × Nat)} {wv wv' : Value} (h1 : Kept W w) (h2 : W.heap.size ≤ C) (h3 : ¬ Z C) (h5 : SOwn w W.heap.size wv wy) (h6 : ∀ d, wv.ownBlock = some d → d ≠ C ∧ ¬ Z d) (hZ : ∀ k, Z k → k < w.heap.size) (hCl : C < w.heap.size) (g1 : CurAt w' C wv') (g2 : SOwn w' W.heap.size wv' wy') (g3 : OwnRel wv.ownBlock w.heap.size wv') (g4 : TK C wv.ownBlock w w') : CurZ Z W w' C wy' ∧ KX Z w w' := by
  have hb := World.ownsRow.lt h5
  refine ⟨⟨⟨g4.1.trans h1.1, g4.2.1.trans h1.2.1, g4.2.2.1.trans h1.2.2.1, Nat.le_trans h1.size g4.2.2.2.1, fun d hd => (g4.2.2.2.2 d (Nat.lt_of_lt_of_le hd h1.size) (by omega) (fun e => by have := (hb d e.symm).1; omega)).trans (h1.2.2.2.2 d hd)⟩, h2, h3, wv', g1, g2, fun d hd => ?_⟩, g4.2.2.2.1, fun k hk => g4.2.2.2.2 k (hZ k hk) (fun e => h3 (e ▸ hk)) (fun e => (h6 k e.symm).2 hk)⟩
  rcases g3 with g | ⟨g, e, hg⟩
  · exact h6 d (g.symm.trans hd)
  · rw [e] at hd
    injection hd with hd
    subst hd
    exact ⟨by omega, fun hz => by have := hZ _ hz; omega⟩
theorem CurZ.down (h : CurZ Z W w C (pre ++ [q])) (hZ : ∀ k, Z k → k < w.heap.size) (hF : Forest R N B W) (hB : B ≤ W.heap.size) (hW : FWid R N) (hP : PathOk R N top (pre ++ [q])) {i : Nat} {k : Nat × Nat} (hi : (N q.1).kids[i]? = some k) :
    Calls Try.prog 21 #[.pointer (some ⟨C, 0, none⟩), .int .i64 (i : Int)] w fun e w' => e = .returned (.bool true) ∧ CurZ Z W w' C (pre ++ [q] ++ [(k.1, q.2.1 + k.2, i)]) ∧ KX Z w w' := by
  obtain ⟨h1, h2, h3, wv, h4, h5, h6⟩ := h
  have hFw := hF.kb (h1.kb hB)
  have hqR : R q.1 := hP.2.1 q (by simp)
  have hb := path_bounds hF hW hP pre.length q (by simp)
  have hok := (hF top (hP.2.1 (top, 0, 0) (List.mem_of_mem_head? (by rw [hP.1]; rfl)))).2.1
  have hka := hW.at hqR hi
  have hkw : k.2 + (N k.1).width ≤ (N q.1).width ∨ (N q.1).kind = 1 := by
    by_cases hk1 : (N q.1).kind = 1
    · exact Or.inr hk1
    · left
      rw [(hW q.1 hqR).2 hk1, hka.2]
      exact widthS_part hka.1
  have hkz : k.2 ≤ (N top).width := by
    rcases hkw with h | h
    · omega
    · have := (hF q.1 hqR).2.2.1 h
      rw [this] at hi
      simp at hi
  have hwt := hok.2.2.1
  have hst := hok.2.1
  have hwb : (N top).width ≤ 2305843009213693952 := Nat.le_trans hwt (Nat.le_trans (Nat.mul_le_mul_right 524288 hst) (by decide))
  refine (down_is B C W.heap.size wv pre q (N q.1) i k w h4 h5 (by omega) (hFw q.1 hqR).1 hi (by omega) (by omega) (fun d hd => (h6 d hd).1) h1.size).mono ?_
  rintro e w' ⟨rfl, ⟨wv', g1, g2, g3⟩, g4⟩
  exact ⟨rfl, CurZ.go h1 h2 h3 h5 h6 hZ h4.lt g1 g2 g3 g4⟩
theorem CurZ.downNo (h : CurZ Z W w C (pre ++ [q])) (hF : Forest R N B W) (hB : B ≤ W.heap.size) (hqR : R q.1) (hl : pre.length ≤ 4194304) {i : Int} (hi : i < 0 ∨ ((N q.1).kids.length : Int) ≤ i) :
    Calls Try.prog 21 #[.pointer (some ⟨C, 0, none⟩), .int .i64 i] w fun e w' => e = .returned (.bool false) ∧ Kept w w' := by
  obtain ⟨h1, h2, h3, wv, h4, h5, h6⟩ := h
  exact down_no B C W.heap.size wv pre q (N q.1) i w h4 h5 hl ((hF.kb (h1.kb hB)) q.1 hqR).1 hi
theorem CurZ.up (h : CurZ Z W w C (pre ++ [q])) (hZ : ∀ k, Z k → k < w.heap.size) (h1m : 1 ≤ pre.length) (hl : pre.length ≤ 4194304) :
    Calls Try.prog 23 #[.pointer (some ⟨C, 0, none⟩)] w fun e w' => e = .returned (.bool true) ∧ CurZ Z W w' C pre ∧ KX Z w w' := by
  obtain ⟨h1, h2, h3, wv, h4, h5, h6⟩ := h
  obtain ⟨g, cap, rfl, hbg, hgl, hcap, _⟩ := h5.cellsAt (i := pre.length) (q := q) (by simp)
  have hL : (pre ++ [q]).length = pre.length + 1 := by simp
  rw [hL] at h4 h5 hcap h6
  have hg : g ≠ C := (h6 g rfl).1
  refine (up_yes C g pre.length cap w h4 h1m hl hcap).mono ?_
  rintro e w' ⟨rfl, hk, hc⟩
  refine ⟨rfl, CurZ.go h1 h2 h3 h5 h6 hZ h4.lt hc (owns_same h5.pop (fun d hd => ?_)) (Or.inl rfl) ⟨hk.1, hk.2.1, hk.2.2.1, hk.2.2.2.1, fun d hd hn _ => hk.2.2.2.2 d hd hn⟩⟩
  have e : g = d := by injection hd
  subst e
  exact hk.2.2.2.2 g hgl hg
theorem CurZ.right (h : CurZ Z W w C (pre ++ [p, q])) (hZ : ∀ k, Z k → k < w.heap.size) (hF : Forest R N B W) (hB : B ≤ W.heap.size) (hW : FWid R N) (hP : PathOk R N top (pre ++ [p, q])) {by_ : Int} (hby : by_ = 1 ∨ by_ = -1) {i : Nat} {k : Nat × Nat} (hie : (q.2.2 : Int) + by_ = (i : Int)) (hi : (N p.1).kids[i]? = some k) :
    Calls Try.prog 48 #[.pointer (some ⟨C, 0, none⟩), .int .i64 by_] w fun e w' => e = .returned (.bool true) ∧ CurZ Z W w' C (pre ++ [p, (k.1, p.2.1 + k.2, i)]) ∧ KX Z w w' := by
  obtain ⟨h1, h2, h3, wv, h4, h5, h6⟩ := h
  have hpR : R p.1 := hP.2.1 p (by simp)
  have hP' : PathOk R N top (pre ++ [p] ++ [q]) := by simpa using hP
  have hPp := hP'.front (by simp)
  have hb := path_bounds hF hW hPp pre.length p (by simp)
  have hok := (hF top (hP.2.1 (top, 0, 0) (List.mem_of_mem_head? (by rw [hP.1]; rfl)))).2.1
  have hka := hW.at hpR hi
  have hkz : k.2 ≤ (N top).width := by
    by_cases hk1 : (N p.1).kind = 1
    · have := (hF p.1 hpR).2.2.1 hk1
      rw [this] at hi
      simp at hi
    · have h9 := (hW p.1 hpR).2 hk1
      have h8 := widthS_part (N := N) hka.1
      have h7 := hka.2
      omega
  have hwb : (N top).width ≤ 2305843009213693952 := Nat.le_trans hok.2.2.1 (Nat.le_trans (Nat.mul_le_mul_right 524288 hok.2.1) (by decide))
  obtain ⟨k', hk', _, _⟩ := hP.2.2 pre.length p q (by simp) (by simp)
  have hql := (List.getElem?_eq_some_iff.1 hk').1
  have hkl := (hF p.1 hpR).1
  have hk4 : (N p.1).kids.length ≤ 4194304 := by
    obtain ⟨_, kv, _, a, cap, _, _, h, _⟩ := hkl
    exact h
  refine (aside_yes B C W.heap.size wv pre p q (N p.1) by_ w h4 h5 (by have := hok.2.1; have := (hF p.1 hpR).2.1.1; omega) ((hF.kb (h1.kb hB)) p.1 hpR).1 hby (by omega) i k hie hi (fun d hd => (h6 d hd).1) (by omega) (by omega)).mono ?_
  rintro e w' ⟨rfl, g1, g2, g3⟩
  exact ⟨rfl, CurZ.go h1 h2 h3 h5 h6 hZ h4.lt g1 g2 (Or.inl rfl) g3⟩
theorem CurZ.rightNo (h : CurZ Z W w C (pre ++ [p, q])) (hF : Forest R N B W) (hB : B ≤ W.heap.size) (hW : FWid R N) (hP : PathOk R N top (pre ++ [p, q])) {by_ : Int} (hby : by_ = 1 ∨ by_ = -1) (hi : (q.2.2 : Int) + by_ < 0 ∨ ((N p.1).kids.length : Int) ≤ (q.2.2 : Int) + by_) :
    Calls Try.prog 48 #[.pointer (some ⟨C, 0, none⟩), .int .i64 by_] w fun e w' => e = .returned (.bool false) ∧ Kept w w' := by
  obtain ⟨h1, h2, h3, wv, h4, h5, h6⟩ := h
  have hpR : R p.1 := hP.2.1 p (by simp)
  have hP' : PathOk R N top (pre ++ [p] ++ [q]) := by simpa using hP
  have hPp := hP'.front (by simp)
  have hb := path_bounds hF hW hPp pre.length p (by simp)
  have hok := (hF top (hP.2.1 (top, 0, 0) (List.mem_of_mem_head? (by rw [hP.1]; rfl)))).2.1
  obtain ⟨k', hk', _, _⟩ := hP.2.2 pre.length p q (by simp) (by simp)
  have hql := (List.getElem?_eq_some_iff.1 hk').1
  have hk4 : (N p.1).kids.length ≤ 4194304 := by
    obtain ⟨_, kv, _, a, cap, _, _, h, _⟩ := (hF p.1 hpR).1
    exact h
  exact aside_no B C W.heap.size wv pre p q (N p.1) by_ w h4 h5 (by have := hok.2.1; have := (hF p.1 hpR).2.1.1; omega) ((hF.kb (h1.kb hB)) p.1 hpR).1 hby (by omega) hi
theorem CurZ.asideTop (h : CurZ Z W w C [q]) (by_ : Int) : Calls Try.prog 48 #[.pointer (some ⟨C, 0, none⟩), .int .i64 by_] w fun e w' => e = .returned (.bool false) ∧ w' = w := by
  obtain ⟨h1, h2, h3, wv, h4, h5, h6⟩ := h
  obtain ⟨g, cap, rfl, _⟩ := h5.cellsAt (i := 0) (q := q) rfl
  exact aside_top C _ cap by_ h4
theorem CurZ.upTop (h : CurZ Z W w C [q]) : Calls Try.prog 23 #[.pointer (some ⟨C, 0, none⟩)] w fun e w' => e = .returned (.bool false) ∧ w' = w := h.toP.top
theorem CurZ.path (h : CurZ Z W w C (q :: pre)) (hl : pre.length ≤ 4194304) : Calls Try.prog 13 #[.pointer (some ⟨C, 0, none⟩)] w fun e w' => (∃ v, e = .returned v ∧ PathRd w' v (pre.map fun q => q.2.2)) ∧ Kept w w' := by
  obtain ⟨h1, h2, h3, wv, h4, h5, h6⟩ := h
  refine (path_is C _ wv q pre w h4 h5 hl).mono ?_
  rintro e w' ⟨⟨v, rfl, hv⟩, hk⟩
  exact ⟨⟨v, rfl, hv.path (by rw [List.length_map]; exact hl)⟩, hk⟩
/-- A new cursor. -/
theorem curZ_new (Z : Nat → Prop) (W : World) (b : Nat) (w : World) (hW : Kept W w) (hZ : ∀ k, Z k → k < w.heap.size) : Calls Try.prog 7 #[.pointer (some ⟨b, 0, none⟩)] w fun e w' => e = .returned (.pointer (some ⟨w.heap.size + 1, 0, none⟩)) ∧ Kept w w' ∧ CurZ Z W w' (w.heap.size + 1) [(b, 0, 0)] := by
  refine (cursor_is b w).mono ?_
  rintro e w' ⟨rfl, hk, hc, ho⟩
  refine ⟨rfl, hk, gtrans hW hk, by have := hW.size; omega, fun hz => by have := hZ _ hz; omega, _, hc, ?_, fun d hd => ?_⟩
  · refine ⟨ho.1, ?_⟩
    rcases ho.2 with h0 | ⟨g, cap, cur, e, hb, hr⟩
    · exact Or.inl h0
    · exact Or.inr ⟨g, cap, cur, e, Nat.le_trans hW.size hb, hr⟩
  · have e : w.heap.size = d := by injection hd
    subst e
    exact ⟨by omega, fun hz => by have := hZ _ hz; omega⟩
end

end Tr
end Ex
end Go.Proofs.Ythpampfbmpdmoaa
namespace Go.Proofs.Ythpampfbmpdmoaa
open Go.RowKit
namespace Ex
namespace Tr

theorem fwid_of {s0 s1 m0 m1 : Nat} {P Q : List Nat} {N : Nat → Nd} {X : Nat → Rd} (hT : TwinOk s0 s1 m0 m1 P Q N X) : FWid (fun b => b ∈ P) N := by
  intro b hb
  rcases (made_of hT hb).1 with ⟨s, m, l0, l1, l2, l3, e⟩ | ⟨s, m, kd, n, ks, hm, e⟩
  · rw [e]
    exact ⟨rfl, fun h => absurd rfl h⟩
  · have e1 : (N b).kids.map Prod.fst = ks := by rw [e]; exact kidG_fst N ks 0
    rw [e1, e]
    exact ⟨rfl, fun _ => rfl⟩
/-- What hangs to the right of a stand. -/
def rest1 (N : Nat → Nd) (p q : Nat × Nat × Nat) : List Nat := ((N p.1).kids.map Prod.fst).drop (q.2.2 + 1)
/-- What is to come behind a way, the deepest first. -/
def restW (N : Nat → Nd) : List (Nat × Nat × Nat) → List Nat
  | [] => []
  | [_] => []
  | p :: q :: l => restW N (q :: l) ++ rest1 N p q
theorem restW_snoc (N : Nat → Nd) (p q : Nat × Nat × Nat) : ∀ pre : List (Nat × Nat × Nat), restW N (pre ++ [p, q]) = rest1 N p q ++ restW N (pre ++ [p])
  | [] => by simp [restW]
  | [a] => by simp [restW]
  | a :: b :: l => by
    have h := restW_snoc N p q (b :: l)
    simp only [List.cons_append, restW] at h ⊢
    rw [h, List.append_assoc]
section
variable {R : Nat → Prop} {N : Nat → Nd} {B top : Nat} {w : World} {pre : List (Nat × Nat × Nat)} {p q : Nat × Nat × Nat}
theorem PathOk.last (h : PathOk R N top (pre ++ [p, q])) : ∃ k, (N p.1).kids[q.2.2]? = some k ∧ q.1 = k.1 ∧ q.2.1 = p.2.1 + k.2 ∧ R p.1 ∧ R q.1 := by
  obtain ⟨k, h1, h2, h3⟩ := h.2.2 pre.length p q (by simp) (by simp)
  exact ⟨k, h1, h2, h3, h.2.1 p (by simp), h.2.1 q (by simp)⟩
theorem PathOk.turn (hF : Forest R N B w) (h : PathOk R N top (pre ++ [p, q])) {i : Nat} {k : Nat × Nat} (hk : (N p.1).kids[i]? = some k) : PathOk R N top (pre ++ [p, (k.1, p.2.1 + k.2, i)]) := by
  have hP' : PathOk R N top (pre ++ [p] ++ [q]) := by simpa using h
  have hpR : R p.1 := h.2.1 p (by simp)
  have h2 := (hP'.front (by simp)).down hk ((hF p.1 hpR).2.2.2.1 k (List.mem_of_getElem? hk))
  simpa using h2
/-- Where the next sister stands. -/
theorem sister (hW : FWid R N) (h : PathOk R N top (pre ++ [p, q])) {k : Nat × Nat} (hk : (N p.1).kids[q.2.2 + 1]? = some k) : p.2.1 + k.2 = q.2.1 + (N q.1).width ∧ restW N (pre ++ [p, q]) = k.1 :: restW N (pre ++ [p, (k.1, p.2.1 + k.2, q.2.2 + 1)]) := by
  obtain ⟨k0, h1, h2, h3, hpR, hqR⟩ := h.last
  have a0 := hW.at hpR h1
  have a1 := hW.at hpR hk
  constructor
  · rw [a1.2, h3, a0.2, widthS_take a0.1, h2]
    omega
  · rw [restW_snoc, restW_snoc]
    unfold rest1
    obtain ⟨hl1, he1⟩ := List.getElem?_eq_some_iff.1 a1.1
    rw [List.drop_eq_getElem_cons hl1, he1]
    rfl
/-- The last child. -/
theorem lastChild (hF : Forest R N B w) (hW : FWid R N) (h : PathOk R N top (pre ++ [p, q])) (hk : (N p.1).kids.length ≤ q.2.2 + 1) : p.2.1 + (N p.1).width = q.2.1 + (N q.1).width ∧ restW N (pre ++ [p, q]) = restW N (pre ++ [p]) := by
  obtain ⟨k0, h1, h2, h3, hpR, hqR⟩ := h.last
  have a0 := hW.at hpR h1
  have hl := (List.getElem?_eq_some_iff.1 h1).1
  have hk1 : (N p.1).kind ≠ 1 := fun e => by
    have := (hF p.1 hpR).2.2.1 e
    rw [this] at h1
    simp at h1
  constructor
  · have e : ((N p.1).kids.map Prod.fst).take (q.2.2 + 1) = (N p.1).kids.map Prod.fst := List.take_of_length_le (by rw [List.length_map]; omega)
    have h4 := widthS_take (N := N) a0.1
    rw [e] at h4
    rw [(hW p.1 hpR).2 hk1, h3, a0.2, h2, h4]
    omega
  · rw [restW_snoc]
    unfold rest1
    rw [List.drop_eq_nil_of_le (by rw [List.length_map]; omega)]
    rfl
/-- A node without children has the bytes of its own. -/
theorem lwid_none (hW : FWid R N) (hq : R q.1) (hk : (N q.1).kids = []) : lwid (N q.1) = (N q.1).width := by
  unfold lwid
  by_cases h : (N q.1).kind = 1
  · rw [if_pos h]
  · rw [if_neg h, (hW q.1 hq).2 h, hk]
    rfl
theorem lwid_some (hF : Forest R N B w) (hq : R q.1) (hk : (N q.1).kids ≠ []) : lwid (N q.1) = 0 := by
  unfold lwid
  rw [if_neg (fun h => hk ((hF q.1 hq).2.2.1 h))]
/-- Down to the first child. -/
theorem firstChild (hF : Forest R N B w) (hW : FWid R N) (h : PathOk R N top (pre ++ [q])) {k : Nat × Nat} (hk : (N q.1).kids[0]? = some k) : q.2.1 + k.2 = q.2.1 + lwid (N q.1) ∧ (N q.1).kids.map Prod.fst ++ restW N (pre ++ [q]) = k.1 :: restW N (pre ++ [q] ++ [(k.1, q.2.1 + k.2, 0)]) := by
  have hq : R q.1 := h.2.1 q (by simp)
  have a0 := hW.at hq hk
  constructor
  · rw [a0.2, lwid_some hF hq (fun e => by rw [e] at hk; simp at hk)]
    simp [widthS]
  · have e : restW N (pre ++ [q] ++ [(k.1, q.2.1 + k.2, 0)]) = rest1 N q (k.1, q.2.1 + k.2, 0) ++ restW N (pre ++ [q]) := by
      rw [List.append_assoc]
      exact restW_snoc N q _ pre
    rw [e]
    unfold rest1
    cases hl : (N q.1).kids with
    | nil => rw [hl] at hk; simp at hk
    | cons a l =>
      rw [hl] at hk
      have e2 : a = k := by simpa using hk
      subst e2
      simp
end
/-- How the cursor stands between two nodes of the walk: xs all, pre those that have passed. -/
def Between (N : Nat → Nd) (xs pre : List (Nat × Nat)) (dn : Bool) (wy : List (Nat × Nat × Nat)) : Prop :=
  (dn = true ∧ xs = pre) ∨ (dn = false ∧ ∃ py q, wy = py ++ [q] ∧ xs = pre ++ wl N (sizeS N (q.1 :: restW N wy)) (q.1 :: restW N wy) q.2.1)
/-- While it climbs behind the node that was passed. -/
def Climb (R : Nat → Prop) (N : Nat → Nd) (top : Nat) (rem : List Nat) (e : Nat) (more dn : Bool) (wy : List (Nat × Nat × Nat)) : Prop :=
  PathOk R N top wy ∧ ((dn = true ∧ more = false ∧ rem = []) ∨ (dn = false ∧ more = true ∧ ∃ py q, wy = py ++ [q] ∧ rem = q.1 :: restW N wy ∧ q.2.1 = e) ∨ (dn = false ∧ more = false ∧ ∃ py q, wy = py ++ [q] ∧ rem = restW N wy ∧ q.2.1 + (N q.1).width = e))

end Tr
end Ex
end Go.Proofs.Ythpampfbmpdmoaa
namespace Go.Proofs.Ythpampfbmpdmoaa
open Go.RowKit
namespace Ex
namespace Tr

section
variable {Z : Nat → Prop} {W w w' : World} {C : Nat} {wy : List (Nat × Nat × Nat)}
theorem CurZ.ltC (h : CurZ Z W w C wy) : C < w.heap.size := by
  obtain ⟨_, _, _, wv, h4, _⟩ := h
  exact h4.lt
theorem CurZ.more (h : CurZ Z W w C wy) (hk : Kept w w') {Z' : Nat → Prop} (hZ' : ∀ k, Z' k → Z k ∨ k < W.heap.size ∨ w.heap.size ≤ k) : CurZ Z' W w' C wy := by
  have hl := h.ltC
  obtain ⟨h1, h2, h3, wv, h4, h5, h6⟩ := h
  refine ⟨gtrans h1 hk, h2, fun hz => ?_, wv, h4.keep hk, h5.keep hk, fun d hd => ⟨(h6 d hd).1, fun hz => ?_⟩⟩
  · rcases hZ' C hz with h | h | h
    · exact h3 h
    · omega
    · omega
  · have hb := World.ownsRow.lt h5 d hd
    rcases hZ' d hz with h | h | h
    · exact (h6 d hd).2 h
    · omega
    · omega
theorem CurZ.set (h : CurZ Z W w C wy) {db o : Nat} (hz : Z db) (hdb : W.heap.size ≤ db) (v : Value) : CurZ Z W (w.setCell ⟨db, o, none⟩ v) C wy := by
  obtain ⟨h1, h2, h3, wv, h4, h5, h6⟩ := h
  refine ⟨KeptBut.new h1 (setCell_but _ _ _ _) hdb, h2, h3, wv, ?_, owns_same h5 (fun d hd => ?_), h6⟩
  · exact (Below.heap_setCell _ _ _ _ (show C ≠ db from fun e => h3 (e ▸ hz))).trans h4
  · exact Below.heap_setCell _ _ _ _ (show d ≠ db from fun e => (h6 d hd).2 (e ▸ hz))
end
/-- What a cursor of the law must leave alone. -/
def Zp (T : Nat → Prop) (a0 bc : Nat) (k : Nat) : Prop := T k ∨ k < a0 ∨ k = bc ∨ k = bc + 1 ∨ k = bc + 2
/-- Between two nodes of the walk. -/
def PtI (R : Nat → Prop) (N : Nat → Nd) (wX w5 : World) (C bc top : Nat) (xs : List (Nat × Nat)) (T : Nat → Prop) (pre : List (Nat × Nat)) (W : World) : Prop :=
  (∀ k, T k → w5.heap.size ≤ k ∧ k < W.heap.size) ∧ w5.heap.size ≤ W.heap.size ∧ ∃ wy dn, CurZ (Zp T wX.heap.size bc) wX W C wy ∧ PathOk R N top wy ∧ Between N xs pre dn wy ∧ W.heap[bc + 1]? = some (.cells #[.bool dn] 4 (0, 0)) ∧ W.heap[bc]? = w5.heap[bc]? ∧ W.heap[bc + 2]? = w5.heap[bc + 2]?
theorem PtI.stable {R : Nat → Prop} {N : Nat → Nd} {wX w5 : World} {C bc top : Nat} {xs : List (Nat × Nat)} (hbc : bc + 3 = w5.heap.size) (hX : wX.heap.size ≤ bc) : StableW (PtI R N wX w5 C bc top xs) := by
  rintro T T' s A A' ⟨g1, g0, wy, dn, g2, g3, g4, g5, g6, g7⟩ hs
  have hn : ∀ k, k < w5.heap.size → ¬ T k := fun k hk h => by have := (g1 k h).1; omega
  have hsz := hs.2.2.2.1
  have hsame : ∀ k, k < w5.heap.size → A'.heap[k]? = A.heap[k]? := fun k hk => hs.2.2.2.2.1 k (by omega) (hn k hk)
  refine ⟨fun k hk => ?_, by omega, wy, dn, ?_, g3, g4, (hsame _ (by omega)).trans g5, (hsame _ (by omega)).trans g6, (hsame _ (by omega)).trans g7⟩
  · rcases hs.2.2.2.2.2 k hk with h | h
    · have := g1 k h
      omega
    · omega
  · have hCl := g2.ltC
    obtain ⟨h1, h2, h3, wv, h4, h5, h6⟩ := g2
    have hC : ¬ T C := fun h => h3 (Or.inl h)
    have hnew : ∀ d, d < A.heap.size → ¬ Zp T wX.heap.size bc d → ¬ Zp T' wX.heap.size bc d := by
      rintro d hd hz (h | h)
      · rcases hs.2.2.2.2.2 d h with h | h
        · exact hz (Or.inl h)
        · omega
      · exact hz (Or.inr h)
    refine ⟨⟨hs.1.trans h1.1, hs.2.1.trans h1.2.1, hs.2.2.1.trans h1.2.2.1, Nat.le_trans h1.size hsz, fun k hk => (hsame k (by omega)).trans (h1.2.2.2.2 k hk)⟩, h2, hnew C hCl h3, wv, (hs.2.2.2.2.1 C hCl hC).trans h4, owns_same h5 (fun d hd => hs.2.2.2.2.1 d (World.ownsRow.lt h5 d hd).2 (fun h => (h6 d hd).2 (Or.inl h))), fun d hd => ⟨(h6 d hd).1, hnew d (World.ownsRow.lt h5 d hd).2 (h6 d hd).2⟩⟩
/-- The node that is handed over is where the cursor stands. -/
theorem Between.here {R : Nat → Prop} {N : Nat → Nd} {B : Nat} {w : World} {xs pre : List (Nat × Nat)} {dn : Bool} {wy : List (Nat × Nat × Nat)} {x : Nat × Nat} {top : Nat} (h : Between N xs pre dn wy) (hF : Forest R N B w) (hP : PathOk R N top wy) (hx : (pre ++ [x]) <+: xs) : dn = false ∧ ∃ py q, wy = py ++ [q] ∧ q.1 = x.2 ∧ q.2.1 = x.1 ∧ xs = pre ++ [x] ++ wl N (sizeS N ((N x.2).kids.map Prod.fst ++ restW N wy)) ((N x.2).kids.map Prod.fst ++ restW N wy) (x.1 + lwid (N x.2)) := by
  rcases h with ⟨_, e⟩ | ⟨h1, py, q, e, h2⟩
  · obtain ⟨t, ht⟩ := hx
    have := congrArg List.length ht
    rw [e] at this
    simp at this
  · have hq : R q.1 := hP.2.1 q (by rw [e]; simp)
    rw [wl_step hF hq] at h2
    obtain ⟨t, ht⟩ := hx
    rw [h2, List.append_assoc] at ht
    have h3 := List.append_cancel_left ht
    have h4 : x = (q.2.1, q.1) := by simpa using (List.cons.inj h3).1
    subst h4
    exact ⟨h1, py, q, e, rfl, rfl, by rw [h2]; simp⟩
/-- The way went on. -/
theorem Between.next {R : Nat → Prop} {N : Nat → Nd} {xs pre : List (Nat × Nat)} {x : Nat × Nat} {top e : Nat} {rem : List Nat} {more dn : Bool} {wy : List (Nat × Nat × Nat)} (hx : xs = pre ++ [x] ++ wl N (sizeS N rem) rem e) (hc : Climb R N top rem e more dn wy) (hend : more = true ∨ dn = true) : Between N xs (pre ++ [x]) dn wy := by
  rcases hc.2 with ⟨h1, _, h3⟩ | ⟨h1, _, py, q, h4, h5, h6⟩ | ⟨h1, h2, _⟩
  · refine Or.inl ⟨h1, ?_⟩
    rw [hx, h3, wl_nil]
    simp
  · refine Or.inr ⟨h1, py, q, h4, ?_⟩
    rw [hx, h6, ← h5]
  · rw [h1, h2] at hend
    simp at hend

end Tr
end Ex
end Go.Proofs.Ythpampfbmpdmoaa
namespace Go.Proofs.Ythpampfbmpdmoaa
open Go.RowKit
namespace Ex
namespace Tr

/-- A path that was made from block lo on. -/
def PathO (w : World) (lo : Nat) (v : Value) (p : List Nat) : Prop := PathRd w v p ∧ p.length ≤ 4194304 ∧ ∀ g, v.ownBlock = some g → lo ≤ g ∧ g < w.heap.size
theorem PathO.form {w : World} {lo : Nat} {v : Value} {p : List Nat} (h : PathO w lo v p) : ∃ a cap, v = .slice a p.length cap := by
  rcases h.1.form with ⟨rfl, rfl⟩ | ⟨g, cap, rfl⟩
  · exact ⟨none, 0, rfl⟩
  · exact ⟨_, _, rfl⟩
theorem PathO.at {w : World} {lo : Nat} {v : Value} {p : List Nat} (h : PathO w lo v p) {k x : Nat} (hk : p[k]? = some x) : ∃ g cap, v = .slice (some ⟨g, 0, none⟩) p.length cap ∧ lo ≤ g ∧ g < w.heap.size ∧ w.cell? ⟨g, k, none⟩ = some (.int .i64 (x : Int)) := by
  rcases h.1.form with ⟨_, rfl⟩ | ⟨g, cap, rfl⟩
  · simp at hk
  · exact ⟨g, cap, rfl, (h.2.2 g rfl).1, (h.2.2 g rfl).2, h.1.cells.2.2.2 k x hk⟩
theorem PathO.kx {Z : Nat → Prop} {w w' : World} {lo : Nat} {v : Value} {p : List Nat} (h : PathO w lo v p) (hk : KX Z w w') (hz : ∀ g, lo ≤ g → g < w.heap.size → Z g) : PathO w' lo v p := by
  refine ⟨?_, h.2.1, fun g hg => ⟨(h.2.2 g hg).1, Nat.lt_of_lt_of_le (h.2.2 g hg).2 hk.1⟩⟩
  rcases h.1 with h1 | ⟨g, cap, cur, rfl, h2, h3, h4, h5⟩
  · exact Or.inl h1
  · have hb := h.2.2 g rfl
    exact Or.inr ⟨g, cap, cur, rfl, h2, h3, (hk.2 g (hz g hb.1 hb.2)).trans h4, h5⟩
section
variable {Z : Nat → Prop} {W w w' : World} {C : Nat} {wy pre : List (Nat × Nat × Nat)} {p q : Nat × Nat × Nat} {R : Nat → Prop} {N : Nat → Nd} {B top : Nat}
theorem CurZ.pathO (h : CurZ Z W w C (q :: pre)) (hl : pre.length ≤ 4194304) : Calls Try.prog 13 #[.pointer (some ⟨C, 0, none⟩)] w fun e w' => (∃ v, e = .returned v ∧ PathO w' w.heap.size v (pre.map fun q => q.2.2)) ∧ Kept w w' := by
  obtain ⟨h1, h2, h3, wv, h4, h5, h6⟩ := h
  refine (path_is C _ wv q pre w h4 h5 hl).mono ?_
  rintro e w' ⟨⟨v, rfl, hv⟩, hk⟩
  exact ⟨⟨v, rfl, hv.path (by rw [List.length_map]; exact hl), by rw [List.length_map]; exact hl, fun g hg => World.ownsRow.lt hv g hg⟩, hk⟩
theorem PathOk.take (h : PathOk R N top wy) (k : Nat) : PathOk R N top (wy.take (k + 1)) := by
  obtain ⟨h1, h2, h3⟩ := h
  refine ⟨?_, fun q hq => h2 q (List.mem_of_mem_take hq), fun i q q' hi hi' => ?_⟩
  · cases wy with
    | nil => simp at h1
    | cons a l => simpa using h1
  · have a1 := (List.getElem?_eq_some_iff.1 hi).1
    have a2 := (List.getElem?_eq_some_iff.1 hi').1
    rw [List.length_take] at a1 a2
    rw [List.getElem?_take_of_lt (by omega)] at hi hi'
    exact h3 i q q' hi hi'
/-- A step of a path. -/
theorem CurZ.follow {k : Nat} (h : CurZ Z W w C (wy.take (k + 1))) (hZ : ∀ k, Z k → k < w.heap.size) (hF : Forest R N B W) (hB : B ≤ W.heap.size) (hW : FWid R N) (hP : PathOk R N top wy) {q : Nat × Nat × Nat} (hq : wy[k + 1]? = some q) :
    Calls Try.prog 21 #[.pointer (some ⟨C, 0, none⟩), .int .i64 (q.2.2 : Int)] w fun e w' => e = .returned (.bool true) ∧ CurZ Z W w' C (wy.take (k + 1 + 1)) ∧ KX Z w w' := by
  have hlt := (List.getElem?_eq_some_iff.1 hq).1
  obtain ⟨p, hp⟩ : ∃ p, wy[k]? = some p := ⟨_, List.getElem?_eq_getElem (by omega)⟩
  obtain ⟨kk, h1, h2, h3⟩ := hP.2.2 k p q hp hq
  have e1 : wy.take (k + 1) = wy.take k ++ [p] := by rw [List.take_add_one, hp]; rfl
  have e2 : wy.take (k + 1 + 1) = wy.take k ++ [p] ++ [(kk.1, p.2.1 + kk.2, q.2.2)] := by
    rw [List.take_add_one, hq, e1]
    obtain ⟨q1, q2, q3⟩ := q
    dsimp only at h2 h3 ⊢
    rw [h2, h3]
    rfl
  have hP1 := hP.take k
  rw [e1] at h hP1
  rw [e2]
  exact h.down hZ hF hB hW hP1 h1
/-- No sister to the right. -/
def NoSis (N : Nat → Nd) (py : List (Nat × Nat × Nat)) (q : Nat × Nat × Nat) : Prop := ∀ pre p, py = pre ++ [p] → (N p.1).kids.length ≤ q.2.2 + 1
theorem sis_or (N : Nat → Nd) (py : List (Nat × Nat × Nat)) (q : Nat × Nat × Nat) : NoSis N py q ∨ ∃ pre p k, py = pre ++ [p] ∧ (N p.1).kids[q.2.2 + 1]? = some k := by
  rcases List.eq_nil_or_concat py with rfl | ⟨pre, p, rfl⟩
  · exact Or.inl (fun pre p h => by simp at h)
  · by_cases h : q.2.2 + 1 < (N p.1).kids.length
    · exact Or.inr ⟨pre, p, _, List.concat_eq_append, List.getElem?_eq_getElem h⟩
    · refine Or.inl (fun pre' p' e => ?_)
      rw [List.concat_eq_append] at e
      have := List.append_inj' e rfl
      have h2 : p = p' := by simpa using this.2
      subst h2
      omega
theorem CurZ.rightNone {py : List (Nat × Nat × Nat)} (h : CurZ Z W w C (py ++ [q])) (hF : Forest R N B W) (hB : B ≤ W.heap.size) (hW : FWid R N) (hP : PathOk R N top (py ++ [q])) (hn : NoSis N py q) :
    Calls Try.prog 25 #[.pointer (some ⟨C, 0, none⟩)] w fun e w' => e = .returned (.bool false) ∧ Kept w w' := by
  rcases List.eq_nil_or_concat py with rfl | ⟨pre, p, rfl⟩
  · refine right_of ((h.asideTop 1).mono ?_)
    rintro e w' ⟨rfl, rfl⟩
    exact ⟨_, rfl, rfl, Kept.refl _⟩
  · rw [List.concat_eq_append] at h hP hn
    have hl := hn pre p rfl
    have e : pre ++ [p] ++ [q] = pre ++ [p, q] := by simp
    rw [e] at h hP
    refine right_of ((h.rightNo hF hB hW hP (Or.inl rfl) (Or.inr (by omega))).mono ?_)
    rintro e w' ⟨rfl, hk⟩
    exact ⟨_, rfl, rfl, hk⟩
theorem CurZ.rightSis (h : CurZ Z W w C (pre ++ [p] ++ [q])) (hZ : ∀ k, Z k → k < w.heap.size) (hF : Forest R N B W) (hB : B ≤ W.heap.size) (hW : FWid R N) (hP : PathOk R N top (pre ++ [p] ++ [q])) {k : Nat × Nat} (hk : (N p.1).kids[q.2.2 + 1]? = some k) :
    Calls Try.prog 25 #[.pointer (some ⟨C, 0, none⟩)] w fun e w' => e = .returned (.bool true) ∧ CurZ Z W w' C (pre ++ [p, (k.1, p.2.1 + k.2, q.2.2 + 1)]) ∧ KX Z w w' := by
  have e : pre ++ [p] ++ [q] = pre ++ [p, q] := by simp
  rw [e] at h hP
  refine right_of ((h.right hZ hF hB hW hP (Or.inl rfl) (i := q.2.2 + 1) (by omega) hk).mono ?_)
  rintro e w' ⟨rfl, hk⟩
  exact ⟨_, rfl, rfl, hk⟩
theorem CurZ.leftBack {k : Nat × Nat} (h : CurZ Z W w C (pre ++ [p, (k.1, p.2.1 + k.2, q.2.2 + 1)])) (hZ : ∀ k, Z k → k < w.heap.size) (hF : Forest R N B W) (hB : B ≤ W.heap.size) (hW : FWid R N) (hP : PathOk R N top (pre ++ [p] ++ [q])) (hk : (N p.1).kids[q.2.2 + 1]? = some k) :
    Calls Try.prog 27 #[.pointer (some ⟨C, 0, none⟩)] w fun e w' => e = .returned (.bool true) ∧ CurZ Z W w' C (pre ++ [p] ++ [q]) ∧ KX Z w w' := by
  have e : pre ++ [p] ++ [q] = pre ++ [p, q] := by simp
  rw [e] at hP ⊢
  obtain ⟨k0, h1, h2, h3, _⟩ := hP.last
  refine left_of ((h.right hZ hF hB hW (hP.turn hF hk) (Or.inr rfl) (i := q.2.2) (by show ((q.2.2 + 1 : Nat) : Int) + -1 = (q.2.2 : Int); omega) h1).mono ?_)
  rintro e w' ⟨rfl, hc, hx⟩
  refine ⟨_, rfl, rfl, ?_, hx⟩
  have e : (k0.1, p.2.1 + k0.2, q.2.2) = q := by rw [← h2, ← h3]
  rw [← e]
  exact hc
theorem CurZ.lastDown {py : List (Nat × Nat × Nat)} (h : CurZ Z W w C (py ++ [q])) (hZ : ∀ k, Z k → k < w.heap.size) (hF : Forest R N B W) (hB : B ≤ W.heap.size) (hW : FWid R N) (hP : PathOk R N top (py ++ [q])) {t : Nat} (ht : t < (N q.1).kids.length) :
    Calls Try.prog 21 #[.pointer (some ⟨C, 0, none⟩), .int .i64 (t : Int)] w fun e w' => e = .returned (.bool true) ∧ (∃ k, CurZ Z W w' C (py ++ [q] ++ [k])) ∧ KX Z w w' := by
  refine (h.down hZ hF hB hW hP (List.getElem?_eq_getElem ht)).mono ?_
  rintro e w' ⟨rfl, hc, hx⟩
  exact ⟨rfl, ⟨_, hc⟩, hx⟩
theorem dz_keep {b : World} (h : CurZ Z W w C wy ∧ KX Z b w) (hk : Kept w w') (hZ : ∀ k, Z k → k < w.heap.size) : CurZ Z W w' C wy ∧ KX Z b w' :=
  ⟨h.1.keep hk, h.2.trans ⟨hk.size, fun k hz => hk.2.2.2.2 k (hZ k hz)⟩⟩
end

end Tr
end Ex
end Go.Proofs.Ythpampfbmpdmoaa
namespace Go.Proofs.Ythpampfbmpdmoaa
open Go.RowKit
namespace Ex
namespace Tr

section
variable {Z : Nat → Prop} {W w w' : World} {C : Nat} {wy pre py : List (Nat × Nat × Nat)} {p q : Nat × Nat × Nat} {R : Nat → Prop} {N : Nat → Nd} {B top e : Nat} {rem : List Nat}
/-- Into the node where the cursor stands. -/
theorem CurZ.enter1 (h : CurZ Z W w C (py ++ [q])) (hZ : ∀ k, Z k → k < w.heap.size) (hF : Forest R N B W) (hB : B ≤ W.heap.size) (hW : FWid R N) (hP : PathOk R N top (py ++ [q])) (hk : (N q.1).kids ≠ []) :
    Calls Try.prog 21 #[.pointer (some ⟨C, 0, none⟩), .int .i64 0] w fun e' w' => e' = .returned (.bool true) ∧ ∃ wy', CurZ Z W w' C wy' ∧ KX Z w w' ∧ Climb R N top ((N q.1).kids.map Prod.fst ++ restW N (py ++ [q])) (q.2.1 + lwid (N q.1)) true false wy' := by
  obtain ⟨k, hk0⟩ : ∃ k, (N q.1).kids[0]? = some k := by
    cases hl : (N q.1).kids with
    | nil => exact absurd hl hk
    | cons a l => exact ⟨a, rfl⟩
  have hq : R q.1 := hP.2.1 q (by simp)
  refine (h.down hZ hF hB hW hP hk0).mono ?_
  rintro e' w' ⟨rfl, hc, hx⟩
  obtain ⟨f1, f2⟩ := firstChild hF hW hP hk0
  refine ⟨rfl, _, hc, hx, hP.down hk0 ((hF q.1 hq).2.2.2.1 k (List.mem_of_getElem? hk0)), Or.inr (Or.inl ⟨rfl, rfl, py ++ [q], (k.1, q.2.1 + k.2, 0), rfl, f2, f1⟩)⟩
theorem climb0 (hW : FWid R N) (hP : PathOk R N top (py ++ [q])) (hk : (N q.1).kids = []) : Climb R N top ((N q.1).kids.map Prod.fst ++ restW N (py ++ [q])) (q.2.1 + lwid (N q.1)) false false (py ++ [q]) := by
  have hq : R q.1 := hP.2.1 q (by simp)
  refine ⟨hP, Or.inr (Or.inr ⟨rfl, rfl, py, q, rfl, ?_, ?_⟩)⟩
  · rw [hk]
    rfl
  · rw [lwid_none hW hq hk]
/-- What climbing is. -/
theorem Climb.at (h : Climb R N top rem e false false wy) : ∃ py q, wy = py ++ [q] ∧ rem = restW N (py ++ [q]) ∧ q.2.1 + (N q.1).width = e ∧ PathOk R N top (py ++ [q]) := by
  rcases h.2 with ⟨h1, _⟩ | ⟨_, h1, _⟩ | ⟨_, _, py, q, rfl, h2, h3⟩
  · simp at h1
  · simp at h1
  · exact ⟨py, q, rfl, h2, h3, h.1⟩
theorem climb_sis (hF : Forest R N B w) (hW : FWid R N) (hP : PathOk R N top (pre ++ [p] ++ [q])) (he : q.2.1 + (N q.1).width = e) {k : Nat × Nat} (hk : (N p.1).kids[q.2.2 + 1]? = some k) : Climb R N top (restW N (pre ++ [p] ++ [q])) e true false (pre ++ [p, (k.1, p.2.1 + k.2, q.2.2 + 1)]) := by
  have e1 : pre ++ [p] ++ [q] = pre ++ [p, q] := by simp
  rw [e1] at hP ⊢
  obtain ⟨f1, f2⟩ := sister hW hP hk
  refine ⟨hP.turn hF hk, Or.inr (Or.inl ⟨rfl, rfl, pre ++ [p], (k.1, p.2.1 + k.2, q.2.2 + 1), by simp, f2, ?_⟩)⟩
  show p.2.1 + k.2 = e
  rw [f1, he]
theorem climb_top (hP : PathOk R N top [q]) : Climb R N top (restW N [q]) e false true [q] := ⟨hP, Or.inl ⟨rfl, rfl, rfl⟩⟩
theorem climb_up (hF : Forest R N B w) (hW : FWid R N) (hP : PathOk R N top (pre ++ [p] ++ [q])) (he : q.2.1 + (N q.1).width = e) (hn : NoSis N (pre ++ [p]) q) : Climb R N top (restW N (pre ++ [p] ++ [q])) e false false (pre ++ [p]) := by
  have e1 : pre ++ [p] ++ [q] = pre ++ [p, q] := by simp
  have hP2 := hP
  rw [e1] at hP ⊢
  obtain ⟨f1, f2⟩ := lastChild hF hW hP (hn pre p rfl)
  exact ⟨hP2.front (by simp), Or.inr (Or.inr ⟨rfl, rfl, pre, p, rfl, f2, by rw [f1, he]⟩)⟩
end
/-- All that stays but for the cell that says whether it is done. -/
def Zq (T : Nat → Prop) (a0 bc : Nat) (k : Nat) : Prop := Zp T a0 bc k ∧ k ≠ bc + 1
theorem kxq {T : Nat → Prop} {a0 bc : Nat} {w w' : World} (h : KX (Zp T a0 bc) w w') : KX (Zq T a0 bc) w w' := h.less (fun _ hk => hk.1)
theorem kxq_set {T : Nat → Prop} {a0 bc : Nat} (w : World) (v : Value) : KX (Zq T a0 bc) w (w.setCell ⟨bc + 1, 0, none⟩ v) := ⟨by simp, fun k hk => Below.heap_setCell _ _ _ _ hk.2⟩
theorem boolBox_set {w : World} {b : Nat} {x y : Bool} (h : w.heap[b]? = some (.cells #[.bool x] 4 (0, 0))) : (w.setCell ⟨b, 0, none⟩ (.bool y)).heap[b]? = some (.cells #[.bool y] 4 (0, 0)) := by
  have hl := (Array.getElem?_eq_some_iff.1 h).1
  have he := Option.some.inj ((Array.getElem?_eq_getElem hl).symm.trans h)
  simp [World.setCell, Array.getElem_modify, hl, he]
/-- While it climbs. -/
def ClI (R : Nat → Prop) (N : Nat → Nd) (top : Nat) (rem : List Nat) (e : Nat) (T : Nat → Prop) (wX wc : World) (C bc n : Nat) (more dn : Bool) (wy : List (Nat × Nat × Nat)) (wr : World) : Prop :=
  Climb R N top rem e more dn wy ∧ CurZ (Zp T wX.heap.size bc) wX wr C wy ∧ KX (Zq T wX.heap.size bc) wc wr ∧ wr.heap[bc + 1]? = some (.cells #[.bool dn] 4 (0, 0)) ∧ (more = false → dn = false → wy.length ≤ n)
theorem pt_end {R : Nat → Prop} {N : Nat → Nd} {wX w5 W wc wr : World} {C bc top n B e : Nat} {xs pre : List (Nat × Nat)} {x : Nat × Nat} {T : Nat → Prop} {more dn : Bool} {wy : List (Nat × Nat × Nat)} {rem : List Nat} (hT : ∀ k, T k → w5.heap.size ≤ k ∧ k < W.heap.size) (h0 : w5.heap.size ≤ W.heap.size) (h5 : w5.heap.size = bc + 3) (hX : wX.heap.size ≤ bc) (hB : B ≤ wX.heap.size) (hW : Kept W wc)
    (hI : ClI R N top rem e T wX wc C bc n more dn wy wr) (hx : xs = pre ++ [x] ++ wl N (sizeS N rem) rem e) (hend : more = true ∨ dn = true) (gc : W.heap[bc]? = w5.heap[bc]?) (gr : W.heap[bc + 2]? = w5.heap[bc + 2]?) :
    W.heap.size ≤ wr.heap.size ∧ (∀ b, T b → wr.heap[b]? = W.heap[b]?) ∧ KX (fun k => k < B ∨ k = bc + 1 + 1) W wr ∧ PtI R N wX w5 C bc top xs T (pre ++ [x]) wr := by
  obtain ⟨c1, c2, c3, c4, _⟩ := hI
  have hs1 := hW.size
  have hs2 := c3.1
  have hsame : ∀ k, k < W.heap.size → Zp T wX.heap.size bc k → k ≠ bc + 1 → wr.heap[k]? = W.heap[k]? := fun k hk hz hn => (c3.2 k ⟨hz, hn⟩).trans (hW.2.2.2.2 k hk)
  refine ⟨by omega, fun k hk => hsame k (hT k hk).2 (Or.inl hk) (by have := (hT k hk).1; omega), ⟨by omega, fun k hk => hsame k (by omega) ?_ (by omega)⟩, fun k hk => ⟨(hT k hk).1, by have := (hT k hk).2; omega⟩, by omega, wy, dn, c2, c1.1, Between.next hx c1 hend, c4, (hsame bc (by omega) (Or.inr (Or.inr (Or.inl rfl))) (by omega)).trans gc, (hsame (bc + 2) (by omega) (Or.inr (Or.inr (Or.inr (Or.inr rfl)))) (by omega)).trans gr⟩
  rcases hk with hk | hk
  · exact Or.inr (Or.inl (by omega))
  · exact Or.inr (Or.inr (Or.inr (Or.inr hk)))

end Tr
end Ex
end Go.Proofs.Ythpampfbmpdmoaa
namespace Go.Proofs.Ythpampfbmpdmoaa
open Go.RowKit
namespace Ex
namespace Tr

def marksA (Ds : List Nat) : List Deferred := Ds.map fun D => ({ target := .collected D, args := #[] } : Deferred)
theorem leaves_marksA {F : Fence} {n : Nat} {P : Program} {fn : Func} {tmps : Array Value} {R : Ending → World → Prop} (Ds : List Nat) : ∀ W : World, Ds.Nodup → (∀ D, D ∈ Ds → W.heap[D]? = some (.deferred (some []))) →
    (∀ W' : World, W'.os = W.os → W'.tape = W.tape → W'.output = W.output → W'.heap.size = W.heap.size → (∀ k, k ∉ Ds → W'.heap[k]? = W.heap[k]?) → LeavesIn F n P fn tmps R [] .returning W') →
    LeavesInM F n P fn tmps R (marksA Ds) .returning W := by
  induction Ds with
  | nil => intro W _ _ h; exact h W rfl rfl rfl rfl (fun _ _ => rfl)
  | cons D Ds ih =>
    intro W hnd hd h
    obtain ⟨hn1, hn2⟩ := List.nodup_cons.1 hnd
    refine ⟨by simp, .inl ⟨D, _, rfl, run_takeDeferred (hd D (List.mem_cons_self)), ?_⟩⟩
    refine ih _ hn2 (fun D' hD' => ?_) (fun W' e1 e2 e3 e4 e5 => h W' (e1.trans rfl) (e2.trans rfl) (e3.trans rfl) (by rw [e4]; simp) (fun k hk => ?_))
    · rw [World.putObj_heap_other (show D' ≠ D from fun e => hn1 (e ▸ hD'))]; exact hd D' (List.mem_cons_of_mem _ hD')
    · rw [e5 k (fun hm => hk (List.mem_cons_of_mem _ hm))]
      exact World.putObj_heap_other (fun e => hk (by rw [e]; exact List.mem_cons_self))
theorem frame_toA {c : Code} {Q : Exit → Act → World → Prop} {a : Act} {w : World} {R : Act → Prop} (h : R a) (k : ∀ a', R a' → c.wp Try.prog Q a' w) : c.wp Try.prog Q a w := k a h

end Tr
end Ex
end Go.Proofs.Ythpampfbmpdmoaa
