import Derived.Test.YtjomglclefbffaaDoorMSpYo
import Derived.Test.YtjomglclefbffaaDoorMSpQu
import Derived.Test.YtjomglclefbffaaDoorMSpTs
import Derived.Deep.CutRange
namespace Go.Proofs.YtjomglclefbffaaDoor
open Go.RowKit
namespace Ex

/-- The same productions, in whatever order, and however often. -/
def SameP (ps ps' : List ProdM) : Prop := ∀ p, p ∈ ps ↔ p ∈ ps'
theorem SameP.symm {ps ps' : List ProdM} (h : SameP ps ps') : SameP ps' ps := fun p => (h p).symm
theorem mk_same {t : Bool} {ps ps' : List ProdM} (h : SameP ps ps') {n : Nat} (hn : Mk t ps n) : Mk t ps' n := fun S hS => hn S (fun p hp => hS p ((h p).1 hp))
theorem rc_same {st : Nat} {ps ps' : List ProdM} (h : SameP ps ps') {n : Nat} (hn : Rc ps st n) : Rc ps' st n := fun S hS => hn S ⟨hS.1, fun p hp => hS.2 p ((h p).1 hp)⟩
theorem rcT_same {nl st : Nat} {ps ps' : List ProdM} (h : SameP ps ps') {t : Nat} (hn : RcT ps nl st t) : RcT ps' nl st t := by
  obtain ⟨p, h1, h2, h3⟩ := hn
  exact ⟨p, (h p).1 h1, rc_same h h2, h3⟩
theorem ez_same {ps ps' : List ProdM} (h : SameP ps ps') {n k : Nat} (hn : Ez ps n k) : Ez ps' n k := fun R hR => hn R (fun p hp => hR p ((h p).1 hp))
theorem mkS_eq {t : Bool} {ps ps' : List ProdM} (h : SameP ps ps') : Mk t ps = Mk t ps' := funext (fun _ => propext ⟨mk_same h, mk_same h.symm⟩)
theorem fi_same {nl : Nat} {E : Nat → Prop} {ps ps' : List ProdM} (h : SameP ps ps') {x : Nat × Nat} (hx : Fi nl E ps x) : Fi nl E ps' x := fun S hS => hx S ⟨hS.1, fun _ _ y ⟨p, h1, h2, h3⟩ => by
  obtain ⟨j, hj⟩ := List.getElem?_of_mem ((h p).1 (List.mem_of_getElem? h1))
  exact hS.2 j (List.getElem?_eq_some_iff.1 hj).1 y ⟨p, hj, h2, h3⟩⟩
theorem fiS_eq {nl : Nat} {E : Nat → Prop} {ps ps' : List ProdM} (h : SameP ps ps') : Fi nl E ps = Fi nl E ps' := funext (fun _ => propext ⟨fi_same h, fi_same h.symm⟩)
theorem fo_same {nl st : Nat} {E : Nat → Prop} {F : Nat × Nat → Prop} {ps ps' : List ProdM} (h : SameP ps ps') {x : Nat × Nat} (hx : Fo nl st E F ps x) : Fo nl st E F ps' x := fun S hS => hx S ⟨hS.1, fun i _ y ⟨p, z, h1, h2, h3⟩ => by
  obtain ⟨j, hj⟩ := List.getElem?_of_mem ((h p).1 (List.mem_of_getElem? h1))
  exact hS.2 (j, i.2) ⟨p, hj, (List.getElem?_eq_some_iff.1 h2).1⟩ y ⟨p, z, hj, h2, h3⟩⟩
theorem foS_eq {nl st : Nat} {E : Nat → Prop} {F : Nat × Nat → Prop} {ps ps' : List ProdM} (h : SameP ps ps') : Fo nl st E F ps = Fo nl st E F ps' := funext (fun _ => propext ⟨fo_same h, fo_same h.symm⟩)
theorem sen_same {nl : Nat} {ps ps' : List ProdM} (h : SameP ps ps') {x : Nat × List Int} (hx : Sen nl ps x) : Sen nl ps' x := fun S hS => hx S ⟨hS.1, fun _ _ y ⟨p, h1, h2, h3⟩ => by
  obtain ⟨j, hj⟩ := List.getElem?_of_mem ((h p).1 (List.mem_of_getElem? h1))
  exact hS.2 j (List.getElem?_eq_some_iff.1 hj).1 y ⟨p, hj, h2, h3⟩⟩
theorem yis_same {nl : Nat} {ps ps' : List ProdM} (h : SameP ps ps') {L : Nat → Option (List Int)} (hL : YIs nl ps L) : YIs nl ps' L := ⟨fun n r hr => ⟨sen_same h (hL.1 n r hr).1, (hL.1 n r hr).2⟩, fun n r hr => hL.2 n r (sen_same h.symm hr)⟩
theorem wrong_all {k : Nat} {lex : List (LexM k)} {nn : Nat} : ∀ {row : List SymM} {i : Nat}, (∀ x ∈ row, symErr lex nn x = 0) → wrongF lex nn i row = (0, 0)
  | [], _, _ => rfl
  | y :: r, i, h => by
    unfold wrongF
    rw [if_pos (h y List.mem_cons_self)]
    exact wrong_all (fun x hx => h x (List.mem_cons_of_mem _ hx))
theorem places_all {k : Nat} {lex : List (LexM k)} {nn : Nat} : ∀ {ps : List ProdM} {i : Nat}, (∀ p ∈ ps, (0 ≤ p.1 ∧ p.1 < (nn : Int)) ∧ ∀ x ∈ p.2, symErr lex nn x = 0) → placesF lex nn i ps = (0, 0)
  | [], _, _ => rfl
  | p :: ps, i, h => by
    unfold placesF
    have hp := h p List.mem_cons_self
    have hw : (wrongP lex nn p.2).2 = 0 := by unfold wrongP; rw [wrong_all hp.2]
    rw [if_pos hp.1, if_pos hw]
    exact places_all (fun q hq => h q (List.mem_cons_of_mem _ hq))
theorem miss_none {P : Nat → Prop} {n : Nat} {err : Int} {x : Int × Int} (h : FirstMiss P n err x) (he : err ≠ 0) (hx : x.1 = 0) : ∀ k, k < n → P k := by
  rcases h with ⟨i, _, _, _, rfl⟩ | ⟨h, _⟩
  · exact absurd hx he
  · exact h
theorem check_same {k : Nat} {lex : List (LexM k)} {ps ps' : List ProdM} {nn nl : Nat} {st : Int} (h : SameP ps ps') (hq : CheckQ lex ps nn nl st (0, 0)) (hn : ps'.length ≤ 512) : CheckQ lex ps' nn nl st (0, 0) := by
  obtain ⟨_, hpa, a2, a3, a4, ⟨q2, z2⟩, ⟨q3, z3⟩, ⟨q4, z4⟩⟩ := checkQ_ok hq rfl
  have hl := hpa.long (by omega)
  have hp := hpa.places (by omega)
  have hst : 0 ≤ st ∧ st < (nn : Int) := by
    by_cases e : 0 ≤ st ∧ st < (nn : Int)
    · exact e
    · unfold placesP at hp
      rw [if_neg e] at hp
      exact absurd hp (by decide)
  have hl2 : longB nl nn ps' = false := by
    unfold longB at hl ⊢
    simp only [Bool.or_eq_false_iff, decide_eq_false_iff_not, List.any_eq_false, decide_eq_true_eq] at hl ⊢
    exact ⟨⟨⟨hl.1.1.1, hl.1.1.2⟩, by omega⟩, fun p hp => hl.2 p ((h p).2 hp)⟩
  have hp2 : placesP lex nn st ps' = (0, 0) := by
    unfold placesP at hp ⊢
    rw [if_pos hst] at hp ⊢
    exact places_all (fun p hm => places_good hp p ((h p).2 hm))
  obtain ⟨y, r1, r2⟩ := q2
  have hy0 : y.1 = 0 := by
    rcases r2 with ⟨n1, e1⟩ | ⟨z, _⟩
    · rw [e1] at z2; exact absurd z2 n1
    · exact z
  have r3 : FirstMiss (fun i => TrivP lex i ∨ RcT ps nl st.toNat i) nl 72 a2 := by
    rcases r2 with ⟨n1, _⟩ | ⟨_, r⟩
    · exact absurd hy0 n1
    · exact r
  refine ⟨(0, 0), by show _ = _; rw [hl2]; rfl, .inr ⟨rfl, ?_⟩⟩
  refine ⟨(0, 0), hp2.symm, .inr ⟨rfl, ?_⟩⟩
  refine ⟨(0, 0), ⟨(0, 0), .inr ⟨fun i hi => rc_same h (miss_none r1 (by decide) hy0 i hi), rfl⟩, .inr ⟨rfl, .inr ⟨fun i hi => (miss_none r3 (by decide) z2 i hi).imp id (rcT_same h), rfl⟩⟩⟩, .inr ⟨rfl, ?_⟩⟩
  have q3 : FirstMiss (Mk true ps) nn 73 a3 := q3
  refine ⟨(0, 0), .inr ⟨fun i hi => mk_same h (miss_none q3 (by decide) z3 i hi), rfl⟩, .inr ⟨rfl, ?_⟩⟩
  have q4 : EmptyQ ps nn a4 := q4
  refine ⟨(0, 0), .inr ⟨fun i hi hm => ?_, rfl⟩, .inr ⟨rfl, rfl⟩⟩
  obtain ⟨k, h1, h2⟩ := miss_none q4 (by decide) z4 i hi (mk_same h.symm hm)
  exact ⟨k, h1, ez_same h h2⟩
/-- What is told of both is the same. -/
theorem null_two {ps ps' : List ProdM} (h : SameP ps ps') {E E' : Nat} (hE : ∀ n, E.testBit n = true ↔ Mk false ps n) (hE' : ∀ n, E'.testBit n = true ↔ Mk false ps' n) (nn : Nat) : ((List.range nn).map fun i => E.testBit i) = (List.range nn).map fun i => E'.testBit i := by
  congr 1
  funext i
  rw [Bool.eq_iff_iff, hE, hE', mkS_eq h]
theorem first_two {nl : Nat} {ps ps' : List ProdM} (h : SameP ps ps') {F F' : Nat → Nat} (hF : ∀ x, famS F x ↔ Fi nl (Mk false ps) ps x) (hF' : ∀ x, famS F' x ↔ Fi nl (Mk false ps') ps' x) : famS F = famS F' := funext (fun x => propext (by rw [hF, hF', mkS_eq h, fiS_eq h]))
theorem fam_bits {F F' : Nat → Nat} (h : famS F = famS F') (i : Nat) : bitsTo (F i) 128 = bitsTo (F' i) 128 := by
  have e : F i = F' i := Nat.eq_of_testBit_eq (fun t => by
    rw [Bool.eq_iff_iff]
    exact iff_of_eq (congrFun h (i, t)))
  rw [e]
theorem follow_two {nl st : Nat} {ps ps' : List ProdM} (h : SameP ps ps') {F F' G G' : Nat → Nat} (hF : famS F = famS F') (hG : ∀ x, famS G x ↔ Fo nl st (Mk false ps) (famS F) ps x) (hG' : ∀ x, famS G' x ↔ Fo nl st (Mk false ps') (famS F') ps' x) : famS G = famS G' := funext (fun x => propext (by rw [hG, hG', mkS_eq h, hF, foS_eq h]))

end Ex
end Go.Proofs.YtjomglclefbffaaDoor
namespace Go.Proofs.YtjomglclefbffaaDoor
open Go.RowKit
attribute [local go_sem] Oper.semAt_some
namespace Ex

theorem prod_infoS : (Tryd.prog.info? 37).map (fun i => (i.zero, i.size, i.bytes)) = some (some (.agg #[.int .i64 0, .slice none 0 0]), 2, 32) := by kernel_rfl
/-- Productions of the call's own; their right sides lie in w0. -/
def PrsO (w0 w : World) (base : Nat) (v : Value) (ys : List ProdM) : Prop := ∃ xs, w.ownsRow base 37 2 v ys.length xs ∧ ∀ (i : Nat) (p : ProdM), ys[i]? = some p → ∃ u, xs[i * 2]? = some (.int .i64 p.1) ∧ xs[i * 2 + 1]? = some u ∧ RightAt w0 u p.2
theorem PrsO.lt {w0 w : World} {base : Nat} {v : Value} {ys : List ProdM} (h : PrsO w0 w base v ys) : ∀ g, v.ownBlock = some g → base ≤ g ∧ g < w.heap.size := by
  obtain ⟨xs, h1, _⟩ := h
  exact World.ownsRow.lt h1
theorem PrsO.same {w0 w w' : World} {base : Nat} {v : Value} {ys : List ProdM} (h : PrsO w0 w base v ys) (hh : ∀ g, v.ownBlock = some g → w'.heap[g]? = w.heap[g]?) : PrsO w0 w' base v ys := by
  obtain ⟨xs, h1, h2⟩ := h
  exact ⟨xs, owns_same h1 hh, h2⟩
theorem PrsO.keep {w0 w w' : World} {base : Nat} {v : Value} {ys : List ProdM} (h : PrsO w0 w base v ys) (hk : Kept w w') : PrsO w0 w' base v ys := h.same (fun g hg => hk.2.2.2.2 g (h.lt g hg).2)
theorem PrsO.nil (w0 w : World) (base : Nat) : PrsO w0 w base (.slice none 0 0) [] := ⟨[], World.ownsRow_nil _ _ _ _, fun i p hp => by simp at hp⟩
theorem PrsO.form {w0 w : World} {base : Nat} {v : Value} {ys : List ProdM} (h : PrsO w0 w base v ys) : ∃ a c, v = .slice a ys.length c := by
  obtain ⟨xs, h1, _⟩ := h
  rcases h1.2 with ⟨rfl, h0⟩ | ⟨g, cap, cur, rfl, _⟩
  · exact ⟨none, 0, by rw [h0]⟩
  · exact ⟨_, _, rfl⟩
theorem PrsO.snoc_cells {xs : List Value} {ys : List ProdM} {w0 : World} (hl : xs.length = ys.length * 2) (h : ∀ (i : Nat) (p : ProdM), ys[i]? = some p → ∃ u, xs[i * 2]? = some (.int .i64 p.1) ∧ xs[i * 2 + 1]? = some u ∧ RightAt w0 u p.2) {q : ProdM} {u : Value} (hu : RightAt w0 u q.2) : ∀ (i : Nat) (p : ProdM), (ys ++ [q])[i]? = some p → ∃ u', (xs ++ [.int .i64 q.1, u])[i * 2]? = some (.int .i64 p.1) ∧ (xs ++ [.int .i64 q.1, u])[i * 2 + 1]? = some u' ∧ RightAt w0 u' p.2 := by
  intro i p hp
  by_cases e : i < ys.length
  · rw [List.getElem?_append_left e] at hp
    obtain ⟨u', h1, h2, h3⟩ := h i p hp
    exact ⟨u', by rw [List.getElem?_append_left (by omega)]; exact h1, by rw [List.getElem?_append_left (by omega)]; exact h2, h3⟩
  · have hi : i < (ys ++ [q]).length := (List.getElem?_eq_some_iff.1 hp).1
    have e2 : i = ys.length := by rw [List.length_append] at hi; simp at hi; omega
    subst e2
    rw [List.getElem?_append_right (Nat.le_refl _), Nat.sub_self] at hp
    have hp : q = p := by simpa using hp
    subst hp
    refine ⟨u, ?_, ?_, hu⟩
    · rw [List.getElem?_append_right (by omega), hl, Nat.sub_self]; rfl
    · rw [List.getElem?_append_right (by omega), hl, show ys.length * 2 + 1 - ys.length * 2 = 1 by omega]; rfl
/-- append of one production, at a step of a region that draws its order. -/
theorem step_prod {ops : Array Oper} {o : Oper} {a : Act} {K : Act → World → Prop} {Q : Exit → Act → World → Prop} {E : Prop} (hgd : o.guard = none) (s x : Operand) (ho : o.op = .call { callee := .builtin .append, args := #[s, x], argTypes := #[24, 24] }) (w0 W : World)
    (base : Nat) (v : Value) (ys : List ProdM) (m : Nat) (hm : ys.length = m) (hs : a.eval s = v) (hown : PrsO w0 W base v ys) (lb : Nat) (q : ProdM) (u : Value) (hu1 : u.oneCell' = true) (hu : RightAt w0 u q.2) (hx : a.eval x = .slice (some ⟨lb, 0, none⟩) 1 1) (hbx : W.heap[lb]? = some (.cells #[.int .i64 q.1, u] 37 (0, 0))) (hl : m ≤ 8388608) (hbase : base ≤ W.heap.size)
    (h : ∀ g cap w', PrsO w0 w' base (.slice (some ⟨g, 0, none⟩) (m + 1) cap) (ys ++ [q]) → W.grownBy w' v.ownBlock → K (a.put o.dst (.slice (some ⟨g, 0, none⟩) (m + 1) cap)) w') :
    if Region.wanted o (yielded ops a.tmps) = true then Oper.wp Tryd.prog o a W K Q else E := by
  obtain ⟨i0, hi, hz0, hz1, hz2⟩ := info_parts prod_infoS
  subst hm
  obtain ⟨xs, h1, h2⟩ := hown
  refine step_append_lies W hgd s x 24 ho base 37 i0 _ 2 32 Tryd.underlying24 hi hz0 hz1 hz2 rfl (by decide) v ys.length xs hs h1 ⟨lb, 0, none⟩ 1 1 [.int .i64 q.1, u] hx rfl ?_ ?_ (by decide) (by unfold maxLen; omega) (by omega) hbase W.heap.size rfl ?_
  · intro j y hj
    have hj2 : j < 2 := (List.getElem?_eq_some_iff.1 hj).1
    match j, hj2 with
    | 0, _ => rw [← hj]; simp [World.cell?, Addr.add, hbx]
    | 1, _ => rw [← hj]; simp [World.cell?, Addr.add, hbx]
  · intro y hy
    simp only [List.mem_cons, List.not_mem_nil, or_false] at hy
    rcases hy with rfl | rfl
    · rfl
    · exact hu1
  · intro g cap w' h3 h4 _ _
    refine h g cap w' ⟨xs ++ [.int .i64 q.1, u], ?_, PrsO.snoc_cells h1.1 h2 hu⟩ h4
    rw [List.length_append]
    exact h3
/-- As productions to be read. -/
theorem PrsO.read {w0 w : World} {base : Nat} {v : Value} {ys : List ProdM} (h : PrsO w0 w base v ys) (hk : Kept w0 w) (hl : ys.length ≤ 1000000) : ProdsAt w v ys := by
  obtain ⟨xs, h1, h2⟩ := h
  rcases h1.2 with ⟨rfl, h0⟩ | ⟨g, cap, cur, rfl, _, hg, hc, _, hs, ht⟩
  · have e : ys = [] := List.length_eq_zero_iff.1 h0
    subst e
    exact ⟨none, 0, rfl, Nat.le_refl _, by simp, .inl rfl⟩
  · refine ⟨some ⟨g, 0, none⟩, cap, rfl, hc, by omega, .inr ⟨g, 0, rfl, (Array.getElem?_eq_some_iff.1 hg).1, fun i p hp => ?_⟩⟩
    obtain ⟨u, q1, q2, q3⟩ := h2 i p hp
    refine ⟨[.int .i64 p.1, u], rfl, fun j y hy => ?_, u, rfl, q3.keep hk⟩
    have cellI : ∀ (n : Nat) (z : Value), xs[n]? = some z → w.cell? ⟨g, n, none⟩ = some z := fun n z hz => by
      rw [← ht, List.getElem?_take] at hz
      split at hz
      · simp only [World.cell?, hg]
        simpa using hz
      · cases hz
    match j, hy with
    | 0, hy =>
      have hy : Value.int .i64 p.1 = y := by simpa using hy
      subst hy
      rw [Nat.zero_add, Nat.add_zero]
      exact cellI _ _ q1
    | 1, hy =>
      have hy : u = y := by simpa using hy
      subst hy
      rw [Nat.zero_add]
      exact cellI _ _ q2
    | j + 2, hy => simp at hy
/-- Where the first loop stands: m productions are still to be taken. -/
def TuP (ps : List ProdM) (n k m : Nat) (ys : List ProdM) : Prop := ys.length = n - m ∧ (∀ y ∈ ys, y ∈ ps) ∧ ∀ i p, m ≤ i → i < n → ps[(i + k) % n]? = some p → p ∈ ys
theorem TuP.start (ps : List ProdM) (n k : Nat) : TuP ps n k n [] := ⟨by simp, fun y hy => (by cases hy), fun i p h1 h2 => by omega⟩
theorem TuP.step {ps : List ProdM} {n k m : Nat} {ys : List ProdM} (h : TuP ps n k (m + 1) ys) (hm : m + 1 ≤ n) {p : ProdM} (hp : ps[(m + k) % n]? = some p) : TuP ps n k m (ys ++ [p]) := by
  refine ⟨by rw [List.length_append, h.1]; simp; omega, fun y hy => ?_, fun i q h1 h2 hq => ?_⟩
  · rcases List.mem_append.1 hy with hy | hy
    · exact h.2.1 y hy
    · rw [List.mem_singleton.1 hy]; exact List.mem_of_getElem? hp
  · by_cases e : i = m
    · subst e
      rw [hp] at hq
      injection hq with hq
      subst hq
      exact List.mem_append_right _ (by simp)
    · exact List.mem_append_left _ (h.2.2 i q (by omega) h2 hq)
theorem TuP.all {ps : List ProdM} {n k : Nat} {ys : List ProdM} (h : TuP ps n k 0 ys) (hn : ps.length = n) (hk : k < n) : SameP ps ys := fun p => ⟨fun hp => by
  obtain ⟨j, hj⟩ := List.getElem?_of_mem hp
  have hjn : j < n := by rw [← hn]; exact (List.getElem?_eq_some_iff.1 hj).1
  have e : ((j + n - k) % n + k) % n = j := by
    by_cases hjk : k ≤ j
    · have e1 : (j + n - k) % n = j - k := by
        rw [show j + n - k = (j - k) + n by omega, Nat.add_mod_right, Nat.mod_eq_of_lt (by omega)]
      rw [e1, show j - k + k = j by omega, Nat.mod_eq_of_lt hjn]
    · have e1 : (j + n - k) % n = j + n - k := Nat.mod_eq_of_lt (by omega)
      rw [e1, show j + n - k + k = j + n by omega, Nat.add_mod_right, Nat.mod_eq_of_lt hjn]
  exact h.2.2 ((j + n - k) % n) p (Nat.zero_le _) (Nat.mod_lt _ (by omega)) (by rw [e]; exact hj), fun hp => h.2.1 p hp⟩
theorem SameP.more {ps ys : List ProdM} (h : SameP ps ys) {p : ProdM} (hp : p ∈ ps) : SameP ps (ys ++ [p]) := fun q => ⟨fun hq => List.mem_append_left _ ((h q).1 hq), fun hq => by
  rcases List.mem_append.1 hq with hq | hq
  · exact (h q).2 hq
  · rw [List.mem_singleton.1 hq]; exact hp⟩

end Ex
end Go.Proofs.YtjomglclefbffaaDoor
namespace Go.Proofs.YtjomglclefbffaaDoor
open Go.RowKit
attribute [local go_sem] Oper.semAt_some
namespace Ex

/-- The other spec while it is laid: its box is ob, its productions ys are the call's own, their right sides lie in w0. -/
def Oth (w0 : World) (ob : Nat) (x0 x1 x2 : Value) (ys : List ProdM) (wr : World) : Prop := ∃ a n c, ys.length = n ∧ Hid (SBox wr ob x0 x1 x2 (.slice a n c)) ∧ Hid (PrsO w0 wr (ob + 1) (.slice a n c) ys) ∧ Hid (Kept w0 wr)
theorem SBox.set3 {w : World} {b : Nat} {x0 x1 x2 x3 : Value} (h : SBox w b x0 x1 x2 x3) (y : Value) : SBox (w.setCell ⟨b, 3, none⟩ y) b x0 x1 x2 y := by
  unfold SBox at h ⊢
  have hl : b < w.heap.size := (Array.getElem?_eq_some_iff.1 h).1
  have he : w.heap[b] = Obj.cells #[x0, x1, x2, x3] 26 (0, 0) := by rw [Array.getElem?_eq_getElem hl] at h; exact Option.some.inj h
  simp [World.setCell, Array.getElem_modify, hl, he]
theorem SBox.free {w : World} {b : Nat} {x0 x1 x2 x3 : Value} (h : SBox w b x0 x1 x2 x3) : w.frozen? ⟨b, 3, none⟩ = false := by simp [World.frozen?, show w.heap[b]? = _ from h]
theorem oth_grown {w0 X w' : World} {ob : Nat} {x0 x1 x2 v : Value} {ys : List ProdM} (hob : w0.heap.size = ob) (hB : SBox X ob x0 x1 x2 v) (hP : PrsO w0 X (ob + 1) v ys) (hK : Kept w0 X) (hg : X.grownBy w' v.ownBlock) : SBox w' ob x0 x1 x2 v ∧ Kept w0 w' := by
  have ne : ∀ d, d ≤ ob → some d ≠ v.ownBlock := fun d hd e => by have := (hP.lt d e.symm).1; omega
  refine ⟨(hg.block ob hB.lt (ne ob (Nat.le_refl _))).trans hB, hg.os.trans hK.1, hg.tape.trans hK.2.1, hg.output.trans hK.2.2.1, Nat.le_trans hK.size hg.size, fun d hd => ?_⟩
  exact (hg.block d (Nat.lt_of_lt_of_le hd hK.size) (ne d (by omega))).trans (hK.2.2.2.2 d hd)
theorem oth_put {w0 w' : World} {ob g m cap : Nat} {x0 x1 x2 v : Value} {ys : List ProdM} {q : ProdM} (hob : w0.heap.size = ob) (hB : SBox w' ob x0 x1 x2 v) (hK : Kept w0 w') (hm : ys.length = m) (ho : PrsO w0 w' (ob + 1) (.slice (some ⟨g, 0, none⟩) (m + 1) cap) (ys ++ [q])) : Oth w0 ob x0 x1 x2 (ys ++ [q]) (w'.setCell ⟨ob, 3, none⟩ (.slice (some ⟨g, 0, none⟩) (m + 1) cap)) :=
  ⟨_, _, _, by rw [List.length_append, hm]; rfl, hB.set3 _, ho.same (fun d hd => heap_set_ne (by have := (ho.lt d hd).1; omega)), keepB hK (by omega)⟩
/-- Where the law's first loop stands. -/
def TuI (ps : List ProdM) (np k : Nat) (w0 : World) (ob : Nat) (x0 x1 x2 : Value) (v : Value) (wr : World) : Prop := ∃ (m : Nat) (ys : List ProdM), v = .int .i64 ((m : Int) - 1) ∧ m ≤ np ∧ Hid (TuP ps np k m ys) ∧ Oth w0 ob x0 x1 x2 ys wr
/-- Where its second loop stands. -/
def TwI (ps : List ProdM) (n2 : Nat) (w0 : World) (ob : Nat) (x0 x1 x2 : Value) (v : Value) (wr : World) : Prop := ∃ (i : Nat) (ys : List ProdM), v = .int .i64 (i : Int) ∧ i ≤ n2 ∧ Hid (SameP ps ys ∧ ys.length ≤ 512) ∧ Oth w0 ob x0 x1 x2 ys wr
/-- A remainder, counted round. -/
theorem tm_round (t : Int) (n : Nat) (hn : 0 < n) : ∃ r : Nat, r < n ∧ (t.tmod (n : Int) < 0 → (r : Int) = t.tmod (n : Int) + n) ∧ (¬ t.tmod (n : Int) < 0 → (r : Int) = t.tmod (n : Int)) := by
  have hnI : (0 : Int) < (n : Int) := by omega
  have h1 := Int.tmod_lt_of_pos t hnI
  have h2 := Int.lt_tmod_of_pos t hnI
  by_cases h0 : t.tmod (n : Int) < 0
  · exact ⟨(t.tmod (n : Int) + n).toNat, by omega, fun _ => by omega, fun h => absurd h0 h⟩
  · exact ⟨(t.tmod (n : Int)).toNat, by omega, fun h => absurd h h0, fun _ => by omega⟩
theorem check_512 {k : Nat} {lex : List (LexM k)} {ps : List ProdM} {nn nl : Nat} {st : Int} (hq : CheckQ lex ps nn nl st (0, 0)) : ps.length ≤ 512 := by
  have hl := (checkQ_ok hq rfl).2.1.long (by omega)
  unfold longB at hl
  simp only [Bool.or_eq_false_iff, decide_eq_false_iff_not] at hl
  omega
theorem tm_sum {i k n r : Nat} (h : (i + k) % n = r) : ((i : Int) + (k : Int)).tmod (n : Int) = (r : Int) := by
  rw [Int.tmod_eq_emod_of_nonneg (by omega), ← h]
  rfl
/-- What both Tolds hold, read off. -/
def ToldTwo (nn : Nat) (v1 v2 v3 v1' v2' v3' : Value) (ay ay' : Option Addr) (m m' : Nat) (w : World) : Prop := m' = m ∧ ∃ (es : List Bool) (l2 l3 l4 : List (List Int)), (es.length = nn ∧ l2.length = nn ∧ l3.length = nn ∧ l4.length = m) ∧ (BoolsR w v1 es ∧ RowsR w v2 l2 ∧ RowsR w v3 l3 ∧ RowsR w (.slice ay m m) l4) ∧ (BoolsR w v1' es ∧ RowsR w v2' l2 ∧ RowsR w v3' l3 ∧ RowsR w (.slice ay' m m) l4)
theorem bits_len (A : Nat) : (bitsTo A 128).length ≤ 128 := bitsTo_len A 128
theorem rows_nilR (w : World) : RowsR w (.slice none 0 0) [] := ⟨none, 0, rfl, Nat.le_refl _, by simp, .inl rfl⟩
theorem told_two {ps ys : List ProdM} (hs : SameP ps ys) {nl st nn base base' m m' : Nat} {v1 v2 v3 v1' v2' v3' : Value} {ay ay' : Option Addr} {y y' : Int × Int} {w : World} (hn : nn ≤ 17592186044416)
    (o1 : NullOk ps nn base v1 w) (o2 : FirstOk nl ps nn base v2 w) (o3 : FollowOk nl st ps nn base v3 w) (o4 : YldO nl ps nn base y (.slice ay m m) w) (o5 : (y.1 = 0 ∧ m = nn) ∨ (y.1 = 6 ∧ m = 0))
    (p1 : NullOk ys nn base' v1' w) (p2 : FirstOk nl ys nn base' v2' w) (p3 : FollowOk nl st ys nn base' v3' w) (p4 : YldO nl ys nn base' y' (.slice ay' m' m') w) (p5 : (y'.1 = 0 ∧ m' = nn) ∨ (y'.1 = 6 ∧ m' = 0)) :
    (y'.1 == 6) = (y.1 == 6) ∧ ToldTwo nn v1 v2 v3 v1' v2' v3' ay ay' m m' w := by
  obtain ⟨E, hE, b1⟩ := o1
  obtain ⟨E', hE', b1'⟩ := p1
  rw [← null_two hs hE hE' nn] at b1'
  obtain ⟨F, _, hF, b2⟩ := o2
  obtain ⟨F', _, hF', b2'⟩ := p2
  have e2 := first_two hs hF hF'
  rw [show ((List.range nn).map fun i => bitsTo (F' i) 128) = ((List.range nn).map fun i => bitsTo (F i) 128) by congr 1; funext i; exact (fam_bits e2 i).symm] at b2'
  obtain ⟨H, G, _, hH, hG, b3⟩ := o3
  obtain ⟨H', G', _, hH', hG', b3'⟩ := p3
  have e3 := follow_two hs (first_two hs hH hH') hG hG'
  rw [show ((List.range nn).map fun i => bitsTo (G' i) 128) = ((List.range nn).map fun i => bitsTo (G i) 128) by congr 1; funext i; exact (fam_bits e3 i).symm] at b3'
  obtain ⟨L, okL, hL, hor⟩ := o4
  obtain ⟨L', _, hL', hor'⟩ := p4
  have one : ∀ n, L n = L' n := (yis_same hs hL).one hL'
  have eL : L' = L := funext (fun n => (one n).symm)
  subst eL
  have lb : ∀ (Q : Nat → Nat), ∀ l ∈ ((List.range nn).map fun i => bitsTo (Q i) 128), l.length ≤ 17592186044416 := fun Q l hl => by
    obtain ⟨i, _, rfl⟩ := List.mem_map.1 hl
    exact Nat.le_trans (bits_len _) (by decide)
  have ln : ∀ {α : Type} (f : Nat → α), ((List.range nn).map f).length = nn := fun f => by simp
  have r1 := b1.read (by rw [ln]; exact hn)
  have r1' := b1'.read (by rw [ln]; exact hn)
  have r2 := b2.read (by rw [ln]; exact hn) (lb _)
  have r2' := b2'.read (by rw [ln]; exact hn) (lb _)
  have r3 := b3.read (by rw [ln]; exact hn) (lb _)
  have r3' := b3'.read (by rw [ln]; exact hn) (lb _)
  rcases hor with ⟨i, hi, hLi, hk, rfl, hv⟩ | ⟨hall, rfl, hr⟩ <;> rcases hor' with ⟨i', hi', hLi', hk', rfl, hv'⟩ | ⟨hall', rfl, hr'⟩
  · have hm : m = 0 := by rcases o5 with h | h; exact absurd h.1 (by show ¬ (6 : Int) = 0; decide); exact h.2
    have hm' : m' = 0 := by rcases p5 with h | h; exact absurd h.1 (by show ¬ (6 : Int) = 0; decide); exact h.2
    subst hm hm'
    simp only [Value.slice.injEq] at hv hv'
    obtain ⟨rfl, _⟩ := hv
    obtain ⟨rfl, _⟩ := hv'
    exact ⟨rfl, rfl, _, _, _, [], ⟨ln _, ln _, ln _, rfl⟩, ⟨r1, r2, r3, rows_nilR w⟩, ⟨r1', r2', r3', rows_nilR w⟩⟩
  · exact absurd hLi (hall' i hi)
  · exact absurd hLi' (hall i' hi')
  · have hm : m = nn := by rcases o5 with h | h; exact h.2; exact absurd h.1 (by decide)
    have hm' : m' = nn := by rcases p5 with h | h; exact h.2; exact absurd h.1 (by decide)
    obtain ⟨q, hq⟩ : ∃ q, nn = q := ⟨_, rfl⟩
    rw [hq] at hm hm'
    subst hm hm'
    have ly : ∀ l ∈ ((List.range nn).map fun i => (L' i).getD []), l.length ≤ 17592186044416 := fun l hl => by
      obtain ⟨i, _, rfl⟩ := List.mem_map.1 hl
      cases e : L' i with
      | none => simp
      | some r => exact Nat.le_trans (okL i r e).2 (by decide)
    exact ⟨rfl, rfl, _, _, _, _, ⟨ln _, ln _, ln _, (ln _).trans hq⟩, ⟨r1, r2, r3, hr.read (by rw [ln]; exact hn) ly⟩, ⟨r1', r2', r3', hr'.read (by rw [ln]; exact hn) ly⟩⟩

end Ex
end Go.Proofs.YtjomglclefbffaaDoor
namespace Go.Proofs.YtjomglclefbffaaDoor
open Go.RowKit
attribute [local go_sem] Oper.semAt_some
namespace Ex

def HaI (l : List Int) (n : Int) (w : World) (vi : Value) (wr : World) : Prop := ∃ j : Nat, vi = .int .i64 (j : Int) ∧ j ≤ l.length ∧ Hid (n ∉ l.take j) ∧ wr = w
set_option linter.unusedSimpArgs false in
set_option maxRecDepth 100000 in
set_option maxHeartbeats 4000000 in
/-- Is the number in the list? -/
theorem lHas_is (a : Option Addr) (m c : Nat) (l : List Int) (n : Int) (w : World) (e1 : l.length = m) (h : IntsR w (.slice a m c) l) :
    Calls Tryd.prog 13 #[.slice a m c, .int .i64 n] w fun e w' => e = .returned (.bool (decide (n ∈ l))) ∧ w' = w := by
  obtain ⟨_, _, q1, hc1, hn1⟩ := SliceOf.len h
  simp only [Value.slice.injEq] at q1
  obtain ⟨rfl, en1, rfl⟩ := q1
  clear en1
  rw [e1] at hc1 hn1
  have g1 : (m : Int) ≤ 17592186044416 := by omega
  have H1 := hide1 h
  have E1 := hide1 e1
  clear h e1
  go_enter Tryd.func13, Tryd.ntmps13
  go_wp2_with fail
  go_loopw [5] (HaI l n w) (fun i _ => m - (intOf i).toNat)
  case atStart => exact ⟨0, rfl, Nat.zero_le _, (fun h => by simp at h), rfl⟩
  case round =>
    obtain ⟨j, rfl, hj, HT, rfl⟩ := hrel
    rw [E1.out] at hj
    by_cases hlt : (j : Int) < (m : Int)
    · obtain ⟨x, hx⟩ : ∃ x, l[j]? = some x := ⟨_, List.getElem?_eq_getElem (by have := E1.out; omega)⟩
      obtain ⟨b1, o1, ea1, k1⟩ := H1.out.at_ hx
      subst ea1
      have gj1 : (j : Int) < (c : Int) := by omega
      by_cases hxy : x = n
      · have hb : (x == n) = true := by simp [hxy]
        have HM : Hid (n ∈ l) := hide1 (hxy ▸ List.mem_of_getElem? hx)
        clear hxy hx
        go_wp2_with fail
        go_ret
        exact ⟨by rw [decide_eq_true HM.out]; rfl, rfl⟩
      · have hb : (x == n) = false := by simpa using hxy
        have HT2 : Hid (n ∉ l.take (j + 1)) := hide1 (by
          rw [List.take_add_one, hx]
          intro hm
          rcases List.mem_append.1 hm with hm | hm
          · exact HT.out hm
          · simp at hm
            exact hxy hm.symm)
        clear hxy hx
        go_wp2_with fail
        go_roundw
        case rel => exact ⟨j + 1, by go_num, by rw [E1.out]; omega, HT2, rfl⟩
        case measure => simp [intOf]; omega
    · have HE : Hid (n ∉ l) := hide1 (by
        have h := HT.out
        rw [List.take_of_length_le (by have := E1.out; omega)] at h
        exact h)
      go_wp2_with fail
      go_ret
      exact ⟨by rw [decide_eq_false HE.out]; rfl, rfl⟩
/-- The places of a name's productions, of the first n. -/
def ownTo (ps : List ProdM) (x : Int) (n : Nat) : List Nat := (List.range n).filter fun i => decide (∃ p, ps[i]? = some p ∧ p.1 = x)
theorem ownTo_yes {ps : List ProdM} {x : Int} {n : Nat} {p : ProdM} (hp : ps[n]? = some p) (h : p.1 = x) : ownTo ps x (n + 1) = ownTo ps x n ++ [n] := by
  unfold ownTo
  rw [List.range_succ, List.filter_append]
  congr 1
  simp [hp, h]
theorem ownTo_no {ps : List ProdM} {x : Int} {n : Nat} {p : ProdM} (hp : ps[n]? = some p) (h : p.1 ≠ x) : ownTo ps x (n + 1) = ownTo ps x n := by
  unfold ownTo
  rw [List.range_succ, List.filter_append]
  simp [hp, h]
theorem ownTo_len (ps : List ProdM) (x : Int) (n : Nat) : (ownTo ps x n).length ≤ n := Nat.le_trans (List.length_filter_le _ _) (by simp)
theorem ownTo_mem {ps : List ProdM} {x : Int} {n i : Nat} (h : i ∈ ownTo ps x n) : ∃ p, ps[i]? = some p ∧ p.1 = x := by
  unfold ownTo at h
  simpa using (List.mem_filter.1 h).2
theorem ownTo_has {ps : List ProdM} {x : Int} {p : ProdM} (hp : p ∈ ps) (h : p.1 = x) : ownTo ps x ps.length ≠ [] := by
  obtain ⟨i, hi⟩ := List.getElem?_of_mem hp
  intro e
  have : i ∈ ownTo ps x ps.length := List.mem_filter.2 ⟨List.mem_range.2 (List.getElem?_eq_some_iff.1 hi).1, by simp [hi, h]⟩
  rw [e] at this
  cases this
def natsI (l : List Nat) : List Int := l.map fun i : Nat => (i : Int)
theorem grown_own {w0 W w' : World} {v : Value} {l : List Int} {c : Array Value} {t : TypeId} {base : Nat} (h : Kept w0 W) (hb : w0.heap.size ≤ base) (ho : IntsO W base v l) (hg : (W.alloc (.cells c t)).grownBy w' v.ownBlock) : Kept w0 w' :=
  ⟨hg.os.trans h.1, hg.tape.trans h.2.1, hg.output.trans h.2.2.1, Nat.le_trans h.size (Nat.le_trans (allocS_le W _) hg.size), fun d hd => (hg.block d (by simp; have := h.size; omega) (fun e => by have := (ho.lt d e.symm).1; omega)).trans ((heap_alloc_old W _ (Nat.lt_of_lt_of_le hd h.size)).trans (h.2.2.2.2 d hd))⟩
theorem IntsO.low {w : World} {base b : Nat} {v : Value} {l : List Int} (h : IntsO w base v l) (hb : b ≤ base) : IntsO w b v l := by
  have h2 : w.ownsRow base 3 1 v l.length (flatS l) := h
  refine ⟨h2.1, ?_⟩
  rcases h2.2 with ⟨e, h0⟩ | ⟨g, cap, cur, e, hg0, rest⟩
  · exact .inl ⟨e, h0⟩
  · exact .inr ⟨g, cap, cur, e, Nat.le_trans hb hg0, rest⟩
def OwI (ps : List ProdM) (x : Int) (W : World) (v5 vi : Value) (wr : World) : Prop := ∃ j n : Nat, vi = .int .i64 (j : Int) ∧ j ≤ ps.length ∧ (∃ a c, v5 = .slice a n c) ∧ Hid ((natsI (ownTo ps x j)).length = n) ∧ n ≤ j ∧ Hid (IntsO wr W.heap.size v5 (natsI (ownTo ps x j))) ∧ Hid (Kept W wr)
set_option linter.unusedSimpArgs false in
set_option maxRecDepth 100000 in
set_option maxHeartbeats 4000000 in
/-- The productions of a name. -/
theorem lOwn_is (ps : List ProdM) (v0 v1 v2 : Value) (ap : Option Addr) (np cp : Nat) (x : Int) (w : World) (hps : ps.length = np) (h512 : np ≤ 512) (hp : ProdsAt w (.slice ap np cp) ps) :
    Calls Tryd.prog 38 #[.agg #[v0, v1, v2, .slice ap np cp], .int .i64 x] w fun e w' => (∃ v, e = .returned v ∧ IntsO w' w.heap.size v (natsI (ownTo ps x ps.length))) ∧ Kept w w' := by
  obtain ⟨_, _, e1, hc, hn⟩ := hp.len
  simp only [Value.slice.injEq] at e1
  obtain ⟨rfl, en, rfl⟩ := e1
  clear en
  rw [hps] at hc hn
  have gn : (np : Int) ≤ 512 := by omega
  have HB := hide1 (SBox.new w v0 v1 v2 (.slice ap np cp))
  have HK : Hid (Kept w (w.alloc (.cells #[v0, v1, v2, .slice ap np cp] 26))) := (Kept.refl w).alloc _ _
  have HP := hide1 hp
  have HPS := hide1 hps
  clear hp hps
  go_enter Tryd.func38, Tryd.ntmps38
  go_upto_region 1 with fail
  obtain ⟨W, hW⟩ : ∃ W, w.alloc (.cells #[v0, v1, v2, .slice ap np cp] 26) = W := ⟨_, rfl⟩
  rw [hW] at HB HK ⊢
  clear hW
  obtain ⟨sb, hsb⟩ : ∃ sb, w.heap.size = sb := ⟨_, rfl⟩
  rw [hsb] at HB ⊢
  clear hsb
  go_wp2_with fail
  go_loopw [5, 6] (OwI ps x W) (fun _ i _ => np - (intOf i).toNat)
  case atStart => exact ⟨0, 0, rfl, Nat.zero_le _, ⟨none, 0, rfl⟩, rfl, Nat.le_refl _, IntsO.nil W W.heap.size, Kept.refl W⟩
  case round =>
    obtain ⟨j, n, rfl, hj, ⟨a5, c5, rfl⟩, HN, hnj, HO, HKr⟩ := hrel
    rw [HPS.out] at hj
    obtain ⟨s0, s1, s2, s3⟩ := (HB.out.keep HKr.out).facts
    by_cases hlt : (j : Int) < (np : Int)
    · obtain ⟨p, hp⟩ : ∃ p, ps[j]? = some p := ⟨_, List.getElem?_eq_getElem (by have := HPS.out; omega)⟩
      obtain ⟨cb, o2, cs, ea, hcb, hlen, hcell, v', hcs, hrt⟩ := SliceOf.el (HP.out.keep (gtrans HK.out HKr.out)) hp
      subst ea hcs
      have k0 : wr.cell? ⟨cb, o2 + j * 2, none⟩ = some (.int .i64 p.1) := hcell 0 _ rfl
      have gjc : (j : Int) < (cp : Int) := by omega
      clear hcell hlen hrt
      by_cases hx : p.1 = x
      · have hb : (p.1 == x) = true := by simp [hx]
        have HE := hide1 (ownTo_yes hp hx)
        have HLE : Hid ((natsI (ownTo ps x j)).length ≤ 8388608) := hide1 (by rw [HN.out]; omega)
        clear hx hp
        go_wp2_with (at_builtin; go_must (refine wpl_ints rfl _ _ rfl _ W.heap.size _ _ n HN.out (by rfl) (HO.out.keep (w' := wr.alloc (.cells #[.int .i64 (j : Int)] 3)) ((Kept.refl wr).alloc _ _)) wr.heap.size (j : Int) (by rfl) (heap_alloc_new wr _) HLE.out (by exact Nat.le_trans HKr.out.size (allocS_le wr _)) ?_; intro g9 c9 w9 ho9 hg9 hor9 hl9; have HO9 := hide1 ho9; have HK9 := hide1 (grown_own HKr.out (Nat.le_refl _) HO.out hg9); clear ho9 hg9 hor9 hl9))
        go_roundw
        case rel =>
          refine ⟨j + 1, n + 1, by go_num, by rw [HPS.out]; omega, ⟨_, _, rfl⟩, ?_, by omega, ?_, HK9⟩
          · show _ = _
            rw [HE.out]
            have := HN.out
            unfold natsI at this ⊢
            rw [List.map_append, List.length_append, this]
            rfl
          · show IntsO _ _ _ _
            rw [HE.out]
            unfold natsI
            rw [List.map_append]
            exact HO9.out
        case measure => simp [intOf]; omega
      · have hb : (p.1 == x) = false := by simpa using hx
        have HE := hide1 (ownTo_no hp hx)
        clear hx hp
        go_wp2_with fail
        go_roundw
        case rel => exact ⟨j + 1, n, by go_num, by rw [HPS.out]; omega, ⟨_, _, rfl⟩, by rw [HE.out]; exact HN, by omega, by rw [HE.out]; exact HO, HKr⟩
        case measure => simp [intOf]; omega
    · have e : j = ps.length := by have := HPS.out; omega
      have HO2 : Hid (IntsO wr w.heap.size (.slice a5 n c5) (natsI (ownTo ps x ps.length))) := hide1 (by rw [← e]; exact IntsO.low HO.out HK.out.size)
      clear e
      go_wp2_with fail
      go_ret
      exact ⟨⟨_, rfl, HO2.out⟩, gtrans HK.out HKr.out⟩

end Ex
end Go.Proofs.YtjomglclefbffaaDoor
namespace Go.Proofs.YtjomglclefbffaaDoor
open Go.RowKit
attribute [local go_sem] Oper.semAt_some
namespace Ex

/-- A trip in memory. -/
def TpB (w : World) (b : Nat) (x0 x1 x2 x3 pk : Value) (at_ : Nat) (o : Value) (st : Int) : Prop := w.heap[b]? = some (.cells #[x0, x1, x2, x3, pk, .int .i64 (at_ : Int), o, .int .i64 st] 42 (0, 0))
section
variable {w w' : World} {b c : Nat} {x0 x1 x2 x3 pk o : Value} {at_ : Nat} {st : Int}
theorem TpB.lt (h : TpB w b x0 x1 x2 x3 pk at_ o st) : b < w.heap.size := (Array.getElem?_eq_some_iff.1 h).1
theorem TpB.keep (h : TpB w b x0 x1 x2 x3 pk at_ o st) (hk : Kept w w') : TpB w' b x0 x1 x2 x3 pk at_ o st := (hk.2.2.2.2 b h.lt).trans h
theorem TpB.but (h : TpB w b x0 x1 x2 x3 pk at_ o st) (hk : KeptBut c w w') (hc : b ≠ c) : TpB w' b x0 x1 x2 x3 pk at_ o st := (hk.2.2.2.2 b h.lt hc).trans h
theorem TpB.cells (h : TpB w b x0 x1 x2 x3 pk at_ o st) : w.cell? ⟨b, 0, none⟩ = some x0 ∧ w.cell? ⟨b, 1, none⟩ = some x1 ∧ w.cell? ⟨b, 2, none⟩ = some x2 ∧ w.cell? ⟨b, 3, none⟩ = some x3 ∧ w.cell? ⟨b, 4, none⟩ = some pk ∧ w.cell? ⟨b, 5, none⟩ = some (.int .i64 (at_ : Int)) ∧ w.cell? ⟨b, 6, none⟩ = some o ∧ w.cell? ⟨b, 7, none⟩ = some (.int .i64 st) := by
  simp [World.cell?, show w.heap[b]? = _ from h]
theorem TpB.free (h : TpB w b x0 x1 x2 x3 pk at_ o st) (i : Nat) : w.frozen? ⟨b, i, none⟩ = false := by simp [World.frozen?, show w.heap[b]? = _ from h]
theorem TpB.set5 (h : TpB w b x0 x1 x2 x3 pk at_ o st) (a : Nat) : TpB (w.setCell ⟨b, 5, none⟩ (.int .i64 (a : Int))) b x0 x1 x2 x3 pk a o st := by
  unfold TpB at h ⊢
  have hl : b < w.heap.size := (Array.getElem?_eq_some_iff.1 h).1
  have he : w.heap[b] = Obj.cells #[x0, x1, x2, x3, pk, .int .i64 (at_ : Int), o, .int .i64 st] 42 (0, 0) := by rw [Array.getElem?_eq_getElem hl] at h; exact Option.some.inj h
  simp [World.setCell, Array.getElem_modify, hl, he]
theorem TpB.set6 (h : TpB w b x0 x1 x2 x3 pk at_ o st) (u : Value) : TpB (w.setCell ⟨b, 6, none⟩ u) b x0 x1 x2 x3 pk at_ u st := by
  unfold TpB at h ⊢
  have hl : b < w.heap.size := (Array.getElem?_eq_some_iff.1 h).1
  have he : w.heap[b] = Obj.cells #[x0, x1, x2, x3, pk, .int .i64 (at_ : Int), o, .int .i64 st] 42 (0, 0) := by rw [Array.getElem?_eq_getElem hl] at h; exact Option.some.inj h
  simp [World.setCell, Array.getElem_modify, hl, he]
theorem TpB.set7 (h : TpB w b x0 x1 x2 x3 pk at_ o st) (s : Int) : TpB (w.setCell ⟨b, 7, none⟩ (.int .i64 s)) b x0 x1 x2 x3 pk at_ o s := by
  unfold TpB at h ⊢
  have hl : b < w.heap.size := (Array.getElem?_eq_some_iff.1 h).1
  have he : w.heap[b] = Obj.cells #[x0, x1, x2, x3, pk, .int .i64 (at_ : Int), o, .int .i64 st] 42 (0, 0) := by rw [Array.getElem?_eq_getElem hl] at h; exact Option.some.inj h
  simp [World.setCell, Array.getElem_modify, hl, he]
end
/-- What a pick answers. -/
def PickR (w : World) (b : Nat) (x0 x1 x2 x3 pk o : Value) (at_ n : Nat) (st : Int) (e : Ending) (w' : World) : Prop := ∃ r a' : Nat, e = .returned (.int .i64 (r : Int)) ∧ r < n ∧ a' ≤ at_ + 1 ∧ TpB w' b x0 x1 x2 x3 pk a' o st ∧ KeptBut b w w'
set_option linter.unusedSimpArgs false in
set_option maxRecDepth 100000 in
set_option maxHeartbeats 4000000 in
/-- One of n. -/
theorem pick_is (w : World) (b : Nat) (x0 x1 x2 x3 o : Value) (ak : Option Addr) (nk ck at_ n : Nat) (st : Int) (pks : List Int) (hb : TpB w b x0 x1 x2 x3 (.slice ak nk ck) at_ o st) (hpk : IntsR w (.slice ak nk ck) pks) (hl : pks.length = nk) (hn : 0 < n) (hn2 : n ≤ 512) (ha : at_ ≤ 1000) :
    Calls Tryd.prog 39 #[.pointer (some ⟨b, 0, none⟩), .int .i64 (n : Int)] w (PickR w b x0 x1 x2 x3 (.slice ak nk ck) o at_ n st) := by
  obtain ⟨_, _, q1, hc1, hn1⟩ := SliceOf.len hpk
  simp only [Value.slice.injEq] at q1
  obtain ⟨rfl, en1, rfl⟩ := q1
  clear en1
  rw [hl] at hc1 hn1
  have g1 : (nk : Int) ≤ 17592186044416 := by omega
  have ga : (at_ : Int) ≤ 1000 := by omega
  have gn : (n : Int) ≤ 512 := by omega
  have gn0 : (0 : Int) < (n : Int) := by omega
  have HB := hide1 hb
  have HPK := hide1 hpk
  have HL := hide1 hl
  obtain ⟨c0, c1, c2, c3, c4, c5, c6, c7⟩ := hb.cells
  clear hb hpk hl
  go_enter Tryd.func39, Tryd.ntmps39
  by_cases h0 : nk = 0
  · subst h0
    go_wp2_with fail
    go_ret
    exact ⟨0, at_, rfl, hn, by omega, HB.out, but_refl b w⟩
  · have hb0 : ((nk : Int) == 0) = false := by simp; omega
    obtain ⟨q, hq⟩ : ∃ q, at_ % nk = q := ⟨_, rfl⟩
    have hqn : q < nk := by rw [← hq]; exact Nat.mod_lt _ (by omega)
    have hq2 : (at_ : Int) % (nk : Int) = (q : Int) := by rw [← hq]; rfl
    have hq3 : (at_ : Int).tmod (nk : Int) = (q : Int) := by rw [Int.tmod_eq_emod_of_nonneg (by omega), ← hq]; rfl
    obtain ⟨x, hx⟩ : ∃ x, pks[q]? = some x := ⟨_, List.getElem?_eq_getElem (by have := HL.out; omega)⟩
    obtain ⟨kb, ko, ea, k0⟩ := HPK.out.at_ hx
    subst ea
    have gq : (q : Int) < (nk : Int) := by omega
    have gqc : (q : Int) < (ck : Int) := by omega
    obtain ⟨r, hrn, hkr⟩ := tm_round x n hn
    have HKR := hide1 hkr
    have b1 := Int.tmod_lt_of_pos x gn0
    have b2 := Int.lt_tmod_of_pos x gn0
    obtain ⟨t, ht⟩ : ∃ t, x.tmod (n : Int) = t := ⟨_, rfl⟩
    rw [ht] at b1 b2 HKR
    clear hkr hx hq
    have hz : ¬ (n : Int) = 0 := by omega
    have hz1 : ¬ (n : Int) = -1 := by omega
    have hy : ¬ (nk : Int) = 0 := by omega
    have hy1 : ¬ (nk : Int) = -1 := by omega
    go_upto_region 3 with fail
    go_quiet (fail)
    have HK1 := hide1 (drewN_kept w nq)
    clear c0 c1 c2 c3 c4 c5 c6 c7 k0
    obtain ⟨W1, hW1⟩ : ∃ W1, w.drewN nq = W1 := ⟨_, rfl⟩
    rw [hW1] at HK1 ⊢
    clear hW1 ht
    have HB1 := hide1 (HB.out.keep HK1.out)
    obtain ⟨c0, c1, c2, c3, c4, c5, c6, c7⟩ := HB1.out.cells
    have z0 := HB1.out.free 5
    have HB2 := hide1 (HB1.out.set5 (at_ + 1))
    have HK2 : Hid (KeptBut b w (W1.setCell ⟨b, 5, none⟩ (.int .i64 ((at_ + 1 : Nat) : Int)))) := hide1 (but_set (HK1.out.but b) _ _)
    rw [show ((at_ + 1 : Nat) : Int) = (at_ : Int) + 1 by omega] at HK2
    have HB3 : Hid (TpB (W1.setCell ⟨b, 5, none⟩ (.int .i64 ((at_ : Int) + 1))) b x0 x1 x2 x3 (.slice (some ⟨kb, ko, none⟩) nk ck) (at_ + 1) o st) := HB2
    clear HB2
    go_upto_region 5 with fail
    clear c0 c1 c2 c3 c4 c5 c6 c7 z0
    by_cases h0 : t < 0
    · have HE := hide1 (HKR.out.1 h0)
      go_wp2_with fail
      go_ret
      exact ⟨r, at_ + 1, by rw [HE.out]; rfl, hrn, Nat.le_refl _, HB3.out, HK2.out⟩
    · have HE := hide1 (HKR.out.2 h0)
      go_wp2_with fail
      go_ret
      exact ⟨r, at_ + 1, by rw [HE.out]; rfl, hrn, Nat.le_refl _, HB3.out, HK2.out⟩

end Ex
end Go.Proofs.YtjomglclefbffaaDoor
namespace Go.Proofs.YtjomglclefbffaaDoor
open Go.RowKit
namespace Ex

/-- What a sentence tells of its name: the empty one that it is nullable, any other one a head. -/
def SenB (nl : Nat) (ps : List ProdM) (x : Nat × List Int) : Prop := (x.2 = [] → Mk false ps x.1) ∧ ∀ t r, x.2 = t :: r → ∃ u : Nat, t = (u : Int) ∧ Fi nl (Mk false ps) ps (x.1, u)
theorem row_begins {nl : Nat} {ps : List ProdM} {S : Nat × List Int → Prop} (hS : ∀ x, S x → SenB nl ps x) : ∀ {ys : List SymM} {r : List Int}, RowOf nl S ys r → (r = [] → ∀ x ∈ ys, SymOk false (Mk false ps) x) ∧ ∀ t r', r = t :: r' → ∃ u : Nat, t = (u : Int) ∧ HeadS nl (Mk false ps) (Fi nl (Mk false ps) ps) (fun _ => False) ys u
  | [], r, h => by
    have h : r = [] := h
    subst h
    exact ⟨fun _ x hx => (by cases hx), fun t r' e => (by cases e)⟩
  | y :: ys, r, ⟨a, c, hr, hor, hc⟩ => by
    subst hr
    obtain ⟨i1, i2⟩ := row_begins hS hc
    rcases hor with ⟨h3, hs⟩ | ⟨h3, ha⟩
    · obtain ⟨q1, q2⟩ := hS _ hs
      cases a with
      | nil =>
        have hm := q1 rfl
        refine ⟨fun e x hx => ?_, fun t r' e => ?_⟩
        · rcases List.mem_cons.1 hx with rfl | hx
          · exact ⟨fun _ => hm, fun h => absurd h3 h⟩
          · exact i1 (by simpa using e) x hx
        · obtain ⟨u, hu, hh⟩ := i2 t r' (by simpa using e)
          exact ⟨u, hu, .inl ⟨h3, .inr ⟨hm, hh⟩⟩⟩
      | cons t a =>
        refine ⟨fun e => (by simp at e), fun t' r' e => ?_⟩
        obtain ⟨u, hu, hf⟩ := q2 t a rfl
        have e1 : t = t' := by simp at e; exact e.1
        exact ⟨u, e1 ▸ hu, .inl ⟨h3, .inl hf⟩⟩
    · subst ha
      refine ⟨fun e => (by simp at e), fun t' r' e => ?_⟩
      have e1 : ((termN nl y : Nat) : Int) = t' := by simp at e; exact e.1
      exact ⟨_, e1.symm, .inr ⟨h3, rfl⟩⟩
theorem sen_begins {nl : Nat} {ps : List ProdM} {x : Nat × List Int} (h : Sen nl ps x) : SenB nl ps x :=
  h (SenB nl ps) ⟨fun _ h => h.elim, fun i hi x ⟨p, hp, hx1, hx2⟩ => by
    obtain ⟨h1, h2⟩ := row_begins (fun _ h => h) hx2
    refine ⟨fun e => ?_, fun t r e => ?_⟩
    · rw [hx1]
      exact mk_closed false ps p (List.mem_of_getElem? hp) (h1 e)
    · obtain ⟨u, hu, hh⟩ := h2 t r e
      refine ⟨u, hu, ?_⟩
      rw [hx1]
      exact (lf_closed (fi_up nl (Mk false ps) ps)).2 i hi _ ⟨p, hp, rfl, hh⟩⟩
/-- What a symbol makes. -/
def SymR (nl : Nat) (ps : List ProdM) (y : SymM) (c : List Int) : Prop := (y.1 = 3 ∧ Sen nl ps (y.2.toNat, c)) ∨ (y.1 ≠ 3 ∧ c = [((termN nl y : Nat) : Int)])
theorem RowOf.snoc {nl : Nat} {ps : List ProdM} : ∀ {ys : List SymM} {a : List Int}, RowOf nl (Sen nl ps) ys a → ∀ {y : SymM} {c : List Int}, SymR nl ps y c → RowOf nl (Sen nl ps) (ys ++ [y]) (a ++ c)
  | [], a, h, y, c, hy => by
    have h : a = [] := h
    subst h
    exact ⟨c, [], by simp, hy, rfl⟩
  | _ :: _, _, ⟨a, d, e, hz, hd⟩, _, c, hy => ⟨a, d ++ c, by rw [e, List.append_assoc], hz, RowOf.snoc hd hy⟩
theorem RowOf.more {nl : Nat} {ps : List ProdM} {ys : List SymM} {i : Nat} {a c : List Int} {y : SymM} (h : RowOf nl (Sen nl ps) (ys.take i) a) (hy : ys[i]? = some y) (hs : SymR nl ps y c) : RowOf nl (Sen nl ps) (ys.take (i + 1)) (a ++ c) := by
  rw [List.take_add_one, hy]
  exact h.snoc hs
/-- Of a best row nothing that the name makes is ahead. -/
theorem sen_best {nl : Nat} {ps : List ProdM} {L : Nat → Option (List Int)} (h : YIs nl ps L) {n : Nat} {r : List Int} (hr : Sen nl ps (n, r)) (hl : r.length ≤ 4096) : ∃ r', L n = some r' ∧ LeY r' r := h.2 n r hr hl

/-- All that was there stays, but b and the block g. -/
def TkS (b : Nat) (g : Option Nat) (w w' : World) : Prop := w'.os = w.os ∧ w'.tape = w.tape ∧ w'.output = w.output ∧ w.heap.size ≤ w'.heap.size ∧ ∀ d, d < w.heap.size → d ≠ b → some d ≠ g → w'.heap[d]? = w.heap[d]?
/-- The list's block is the elder one or new. -/
def OwS (g : Option Nat) (H : Nat) (v : Value) : Prop := v.ownBlock = g ∨ ∀ d, v.ownBlock = some d → H ≤ d
theorem TkS.refl (b : Nat) (g : Option Nat) (w : World) : TkS b g w w := ⟨rfl, rfl, rfl, Nat.le_refl _, fun _ _ _ _ => rfl⟩
theorem TkS.of_kept {b : Nat} {g : Option Nat} {w w' : World} (h : Kept w w') : TkS b g w w' := ⟨h.1, h.2.1, h.2.2.1, h.size, fun d hd _ _ => h.2.2.2.2 d hd⟩
theorem TkS.of_but {b : Nat} {g : Option Nat} {w w' : World} (h : KeptBut b w w') : TkS b g w w' := ⟨h.1, h.2.1, h.2.2.1, h.2.2.2.1, fun d hd hb _ => h.2.2.2.2 d hd hb⟩
theorem TkS.trans {b : Nat} {g : Option Nat} {v : Value} {w w1 w2 : World} (h1 : TkS b g w w1) (ho : OwS g w.heap.size v) (h2 : TkS b v.ownBlock w1 w2) : TkS b g w w2 :=
  ⟨h2.1.trans h1.1, h2.2.1.trans h1.2.1, h2.2.2.1.trans h1.2.2.1, Nat.le_trans h1.2.2.2.1 h2.2.2.2.1, fun d hd hb hg => (h2.2.2.2.2 d (Nat.lt_of_lt_of_le hd h1.2.2.2.1) hb (by
    rcases ho with ho | ho
    · rw [ho]; exact hg
    · intro e
      have := ho d e.symm
      omega)).trans (h1.2.2.2.2 d hd hb hg)⟩
theorem OwS.trans {g : Option Nat} {H H' : Nat} {v v' : Value} (h1 : OwS g H v) (h2 : OwS v.ownBlock H' v') (hH : H ≤ H') : OwS g H v' := by
  rcases h2 with h2 | h2
  · rcases h1 with h1 | h1
    · exact .inl (h2.trans h1)
    · exact .inr (fun d hd => h1 d (h2.symm.trans hd))
  · exact .inr (fun d hd => Nat.le_trans hH (h2 d hd))
/-- A trip under way: its box is b; W0 is the world ahead of it. -/
def Tp (W0 : World) (b : Nat) (x0 x1 x2 x3 pk : Value) (at_ : Nat) (out : List Int) (st : Nat) (o : Value) (w : World) : Prop := (∃ a c, o = .slice a out.length c) ∧ TpB w b x0 x1 x2 x3 pk at_ o (st : Int) ∧ IntsO w (b + 1) o out ∧ Kept W0 w ∧ at_ ≤ st ∧ out.length ≤ st
/-- What makes answers. -/
def MakR (W0 : World) (b : Nat) (x0 x1 x2 x3 pk : Value) (nl : Nat) (ps : List ProdM) (y : SymM) (out : List Int) (st : Nat) (o : Value) (w : World) (e : Ending) (w' : World) : Prop := ∃ (r : Bool) (at_ : Nat) (out' : List Int) (st' : Nat) (o' : Value), e = .returned (.bool r) ∧ Tp W0 b x0 x1 x2 x3 pk at_ out' st' o' w' ∧ st ≤ st' ∧ st' ≤ 401 ∧ (r = true → st' ≤ 400 ∧ ∃ c, out' = out ++ c ∧ SymR nl ps y c) ∧ TkS b o.ownBlock w w' ∧ OwS o.ownBlock w.heap.size o'

end Ex
end Go.Proofs.YtjomglclefbffaaDoor
namespace Go.Proofs.YtjomglclefbffaaDoor
open Go.RowKit
attribute [local go_sem] Oper.semAt_some
namespace Ex

/-- append of one int, at a step of a region that draws its order. -/
theorem step_intS {ops : Array Oper} {o : Oper} {a : Act} {K : Act → World → Prop} {Q : Exit → Act → World → Prop} {E : Prop} (hgd : o.guard = none) (s x : Operand) (ho : o.op = .call { callee := .builtin .append, args := #[s, x], argTypes := #[27, 27] }) (W : World)
    (base : Nat) (v : Value) (l : List Int) (m : Nat) (hm : l.length = m) (hs : a.eval s = v) (hown : IntsO W base v l) (lb : Nat) (k : Int) (hx : a.eval x = .slice (some ⟨lb, 0, none⟩) 1 1) (hbx : W.heap[lb]? = some (.cells #[.int .i64 k] 3 (0, 0))) (hl : m ≤ 8388608) (hbase : base ≤ W.heap.size)
    (h : ∀ g cap w', IntsO w' base (.slice (some ⟨g, 0, none⟩) (m + 1) cap) (l ++ [k]) → W.grownBy w' v.ownBlock → (v.ownBlock = some g ∨ g = W.heap.size) → K (a.put o.dst (.slice (some ⟨g, 0, none⟩) (m + 1) cap)) w') :
    if Region.wanted o (yielded ops a.tmps) = true then Oper.wp Tryd.prog o a W K Q else E := by
  obtain ⟨i0, hi, hz0, hz1, hz2⟩ := info_parts sint_info
  subst hm
  refine step_append_lies W hgd s x 27 ho base 3 i0 _ 1 8 Tryd.underlying27 hi hz0 hz1 hz2 rfl (by decide) v l.length (flatS l) hs hown ⟨lb, 0, none⟩ 1 1 [.int .i64 k] hx rfl ?_ ?_ (by decide) (by unfold maxLen; omega) (by omega) hbase W.heap.size rfl ?_
  · intro j y hj
    have hj2 : j < 1 := (List.getElem?_eq_some_iff.1 hj).1
    match j, hj2 with
    | 0, _ => rw [← hj]; simp [World.cell?, Addr.add, hbx]
  · intro u hu
    rw [List.mem_singleton.1 hu]
    rfl
  · intro g cap w' h1 h2 h3 _
    refine h g cap w' ?_ h2 h3
    unfold IntsO
    rw [List.length_append]
    unfold flatS
    rw [List.map_append]
    exact h1
theorem TkS.and {b : Nat} {g : Option Nat} {w w1 w2 : World} (h1 : TkS b g w w1) (h2 : TkS b g w1 w2) : TkS b g w w2 :=
  ⟨h2.1.trans h1.1, h2.2.1.trans h1.2.1, h2.2.2.1.trans h1.2.2.1, Nat.le_trans h1.2.2.2.1 h2.2.2.2.1, fun d hd hb hg => (h2.2.2.2.2 d (Nat.lt_of_lt_of_le hd h1.2.2.2.1) hb hg).trans (h1.2.2.2.2 d hd hb hg)⟩
theorem TkS.grown {b : Nat} {g : Option Nat} {w w' : World} (h : w.grownBy w' g) : TkS b g w w' := ⟨h.os, h.tape, h.output, h.size, fun d hd _ hg => h.block d hd hg⟩
theorem OwS.low {g : Option Nat} {H H' : Nat} {v : Value} (h : OwS g H v) (hH : H' ≤ H) : OwS g H' v := h.imp id (fun h d hd => Nat.le_trans hH (h d hd))
theorem kb_cell {b c o : Nat} {w w' : World} {v : Value} (h : KeptBut b w w') (hc : c ≠ b) (hv : w.cell? ⟨c, o, none⟩ = some v) : w'.cell? ⟨c, o, none⟩ = some v := by
  have hl := World.block_lt_of_cell? w _ hv
  have e := h.2.2.2.2 c hl hc
  unfold World.cell? at hv ⊢
  simp only [e]
  exact hv
theorem PBox.fill {w : World} {b : Nat} {l v : Value} (h : PBox w b l v) (l' v' : Value) : PBox ((w.setCell ⟨b, 0, none⟩ l').setCell ⟨b, 1, none⟩ v') b l' v' := by
  unfold PBox at h ⊢
  have hl : b < w.heap.size := (Array.getElem?_eq_some_iff.1 h).1
  have he : w.heap[b] = Obj.cells #[l, v] 37 (0, 0) := by rw [Array.getElem?_eq_getElem hl] at h; exact Option.some.inj h
  simp [World.setCell, Array.getElem_modify, hl, he]
theorem PBox.free {w : World} {b : Nat} {l v : Value} (h : PBox w b l v) (i : Nat) : w.frozen? ⟨b, i, none⟩ = false := by simp [World.frozen?, show w.heap[b]? = _ from h]
/-- A production is chosen: it lies in a new box, the trip has gone on by a pick. -/
def ChoR (w3 : World) (b : Nat) (x0 x1 x2 x3 pk o : Value) (at_ st : Nat) (p : ProdM) (u : Value) (pb : Nat) (W5 : World) : Prop := (∃ a', a' ≤ at_ + 1 ∧ TpB W5 b x0 x1 x2 x3 pk a' o (st : Int)) ∧ KeptBut b w3 W5 ∧ PBox W5 pb (.int .i64 p.1) u ∧ w3.heap.size ≤ pb
theorem cho_one {w3 w4 : World} {b at_ a' st : Nat} {x0 x1 x2 x3 pk o u : Value} {p : ProdM} (hB : TpB w4 b x0 x1 x2 x3 pk a' o (st : Int)) (ha : a' ≤ at_ + 1) (hk : KeptBut b w3 w4) : ChoR w3 b x0 x1 x2 x3 pk o at_ st p u w4.heap.size (w4.alloc (.cells #[.int .i64 p.1, u] 37)) :=
  ⟨⟨a', ha, hB.keep ((Kept.refl w4).alloc _ _)⟩, hk.trans (((Kept.refl w4).alloc _ _).but b), PBox.new _ _ _, hk.2.2.2.1⟩
theorem cho_two {w3 W4 w4 : World} {b at_ a' st pb : Nat} {x0 x1 x2 x3 pk o u l v : Value} {p : ProdM} (hpb : w3.heap.size ≤ pb) (hb : b < w3.heap.size) (hW : Kept w3 W4) (hP : PBox W4 pb l v) (hB : TpB w4 b x0 x1 x2 x3 pk a' o (st : Int)) (ha : a' ≤ at_ + 1) (hk : KeptBut b W4 w4) : ChoR w3 b x0 x1 x2 x3 pk o at_ st p u pb ((w4.setCell ⟨pb, 0, none⟩ (.int .i64 p.1)).setCell ⟨pb, 1, none⟩ u) := by
  have hP4 := hP.but hk (by omega)
  refine ⟨⟨a', ha, ?_⟩, ?_, hP4.fill _ _, hpb⟩
  · exact (heap_set_ne (by omega)).trans ((heap_set_ne (by omega)).trans hB)
  · refine ⟨hk.1.trans hW.1, hk.2.1.trans hW.2.1, hk.2.2.1.trans hW.2.2.1, ?_, fun d hd hne => ?_⟩
    · have h1 := hW.size
      have h2 := hk.2.2.2.1
      simp
      omega
    · exact (heap_set_ne (by omega)).trans ((heap_set_ne (by omega)).trans ((hk.2.2.2.2 d (Nat.lt_of_lt_of_le hd hW.size) hne).trans (hW.2.2.2.2 d hd)))
/-- A number is put at a trip's end. -/
theorem mak_put {W0 W2 X w9 : World} {b at_ st n g9 c9 : Nat} {x0 x1 x2 x3 pk o : Value} {out : List Int} {k : Int} (hW0 : W0.heap.size = b) (hB : TpB W2 b x0 x1 x2 x3 pk at_ o (st : Int)) (hO : IntsO W2 (b + 1) o out) (hn : out.length = n) (hK : Kept W0 W2) (hat : at_ ≤ st) (hl : n + 1 ≤ st) (hX : Kept W2 X) (hg : X.grownBy w9 o.ownBlock)
    (ho : IntsO w9 (b + 1) (.slice (some ⟨g9, 0, none⟩) (n + 1) c9) (out ++ [k])) (hor : o.ownBlock = some g9 ∨ g9 = X.heap.size) :
    TpB w9 b x0 x1 x2 x3 pk at_ o (st : Int) ∧ Tp W0 b x0 x1 x2 x3 pk at_ (out ++ [k]) st (.slice (some ⟨g9, 0, none⟩) (n + 1) c9) (w9.setCell ⟨b, 6, none⟩ (.slice (some ⟨g9, 0, none⟩) (n + 1) c9)) ∧ TkS b o.ownBlock W2 (w9.setCell ⟨b, 6, none⟩ (.slice (some ⟨g9, 0, none⟩) (n + 1) c9)) ∧ OwS o.ownBlock W2.heap.size (.slice (some ⟨g9, 0, none⟩) (n + 1) c9) := by
  have ne : ∀ d, d ≤ b → some d ≠ o.ownBlock := fun d hd e => by have := (hO.lt d e.symm).1; omega
  have hB9 : TpB w9 b x0 x1 x2 x3 pk at_ o (st : Int) := (hg.block b (hB.keep hX).lt (ne b (Nat.le_refl _))).trans (hB.keep hX)
  have hK9 : Kept W0 w9 := ⟨hg.os.trans ((gtrans hK hX).1), hg.tape.trans ((gtrans hK hX).2.1), hg.output.trans ((gtrans hK hX).2.2.1), Nat.le_trans (gtrans hK hX).size hg.size, fun d hd => (hg.block d (Nat.lt_of_lt_of_le hd (gtrans hK hX).size) (ne d (by omega))).trans ((gtrans hK hX).2.2.2.2 d hd)⟩
  have hlen : (out ++ [k]).length = n + 1 := by rw [List.length_append, hn]; rfl
  refine ⟨hB9, ⟨⟨_, _, by rw [hlen]⟩, hB9.set6 _, ?_, keepB hK9 (by omega), hat, by rw [hlen]; exact hl⟩, (TkS.of_kept hX).and ((TkS.grown hg).and (TkS.of_but (setCell_but _ _ _ _))), ?_⟩
  · exact owns_same ho (fun d hd => heap_set_ne (by have := (ho.lt d hd).1; omega))
  · rcases hor with h | h
    · exact .inl h.symm
    · refine .inr (fun d hd => ?_)
      have e : g9 = d := by simpa [Value.ownBlock] using hd
      rw [← e, h]
      exact hX.size

end Ex
end Go.Proofs.YtjomglclefbffaaDoor
