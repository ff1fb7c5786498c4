import Derived.Test.YtggodknnfpegmaaDoorMSpYo
import Derived.Test.YtggodknnfpegmaaDoorMSpQu
import Derived.Test.YtggodknnfpegmaaDoorMSpTs
namespace Go.Proofs.YtggodknnfpegmaaDoor
open Go.RowKit
namespace Ex

/-- The same productions, in whatever order, and however often. -/
def SameP (ps ps' : List ProdM) : Prop := ∀ p, p ∈ ps ↔ p ∈ ps'
theorem SameP.symm {ps ps' : List ProdM} (h : SameP ps ps') : SameP ps' ps := fun p => (h p).symm
theorem mk_same {t : Bool} {ps ps' : List ProdM} (h : SameP ps ps') {n : Nat} (hn : Mk t ps n) : Mk t ps' n := fun S hS => hn S (fun p hp => hS p ((h p).1 hp))
theorem rc_same {st : Nat} {ps ps' : List ProdM} (h : SameP ps ps') {n : Nat} (hn : Rc ps st n) : Rc ps' st n := fun S hS => hn S ⟨hS.1, fun p hp => hS.2 p ((h p).1 hp)⟩
theorem rcT_same {nl st : Nat} {ps ps' : List ProdM} (h : SameP ps ps') {t : Nat} (hn : RcT ps nl st t) : RcT ps' nl st t := by
  obtain ⟨p, h1, h2, h3⟩ := hn
  exact ⟨p, (h p).1 h1, rc_same h h2, h3⟩
theorem ez_same {ps ps' : List ProdM} (h : SameP ps ps') {n k : Nat} (hn : Ez ps n k) : Ez ps' n k := fun R hR => hn R (fun p hp => hR p ((h p).1 hp))
theorem mkS_eq {t : Bool} {ps ps' : List ProdM} (h : SameP ps ps') : Mk t ps = Mk t ps' := funext (fun _ => propext ⟨mk_same h, mk_same h.symm⟩)
theorem fi_same {nl : Nat} {E : Nat → Prop} {ps ps' : List ProdM} (h : SameP ps ps') {x : Nat × Nat} (hx : Fi nl E ps x) : Fi nl E ps' x := fun S hS => hx S ⟨hS.1, fun _ _ y ⟨p, h1, h2, h3⟩ => by
  obtain ⟨j, hj⟩ := List.getElem?_of_mem ((h p).1 (List.mem_of_getElem? h1))
  exact hS.2 j (List.getElem?_eq_some_iff.1 hj).1 y ⟨p, hj, h2, h3⟩⟩
theorem fiS_eq {nl : Nat} {E : Nat → Prop} {ps ps' : List ProdM} (h : SameP ps ps') : Fi nl E ps = Fi nl E ps' := funext (fun _ => propext ⟨fi_same h, fi_same h.symm⟩)
theorem fo_same {nl st : Nat} {E : Nat → Prop} {F : Nat × Nat → Prop} {ps ps' : List ProdM} (h : SameP ps ps') {x : Nat × Nat} (hx : Fo nl st E F ps x) : Fo nl st E F ps' x := fun S hS => hx S ⟨hS.1, fun i _ y ⟨p, z, h1, h2, h3⟩ => by
  obtain ⟨j, hj⟩ := List.getElem?_of_mem ((h p).1 (List.mem_of_getElem? h1))
  exact hS.2 (j, i.2) ⟨p, hj, (List.getElem?_eq_some_iff.1 h2).1⟩ y ⟨p, z, hj, h2, h3⟩⟩
theorem foS_eq {nl st : Nat} {E : Nat → Prop} {F : Nat × Nat → Prop} {ps ps' : List ProdM} (h : SameP ps ps') : Fo nl st E F ps = Fo nl st E F ps' := funext (fun _ => propext ⟨fo_same h, fo_same h.symm⟩)
theorem sen_same {nl : Nat} {ps ps' : List ProdM} (h : SameP ps ps') {x : Nat × List Int} (hx : Sen nl ps x) : Sen nl ps' x := fun S hS => hx S ⟨hS.1, fun _ _ y ⟨p, h1, h2, h3⟩ => by
  obtain ⟨j, hj⟩ := List.getElem?_of_mem ((h p).1 (List.mem_of_getElem? h1))
  exact hS.2 j (List.getElem?_eq_some_iff.1 hj).1 y ⟨p, hj, h2, h3⟩⟩
theorem yis_same {nl : Nat} {ps ps' : List ProdM} (h : SameP ps ps') {L : Nat → Option (List Int)} (hL : YIs nl ps L) : YIs nl ps' L := ⟨fun n r hr => ⟨sen_same h (hL.1 n r hr).1, (hL.1 n r hr).2⟩, fun n r hr => hL.2 n r (sen_same h.symm hr)⟩
theorem wrong_all {k : Nat} {lex : List (LexM k)} {nn : Nat} : ∀ {row : List SymM} {i : Nat}, (∀ x ∈ row, symErr lex nn x = 0) → wrongF lex nn i row = (0, 0)
  | [], _, _ => rfl
  | y :: r, i, h => by
    unfold wrongF
    rw [if_pos (h y List.mem_cons_self)]
    exact wrong_all (fun x hx => h x (List.mem_cons_of_mem _ hx))
theorem places_all {k : Nat} {lex : List (LexM k)} {nn : Nat} : ∀ {ps : List ProdM} {i : Nat}, (∀ p ∈ ps, (0 ≤ p.1 ∧ p.1 < (nn : Int)) ∧ ∀ x ∈ p.2, symErr lex nn x = 0) → placesF lex nn i ps = (0, 0)
  | [], _, _ => rfl
  | p :: ps, i, h => by
    unfold placesF
    have hp := h p List.mem_cons_self
    have hw : (wrongP lex nn p.2).2 = 0 := by unfold wrongP; rw [wrong_all hp.2]
    rw [if_pos hp.1, if_pos hw]
    exact places_all (fun q hq => h q (List.mem_cons_of_mem _ hq))
theorem miss_none {P : Nat → Prop} {n : Nat} {err : Int} {x : Int × Int} (h : FirstMiss P n err x) (he : err ≠ 0) (hx : x.1 = 0) : ∀ k, k < n → P k := by
  rcases h with ⟨i, _, _, _, rfl⟩ | ⟨h, _⟩
  · exact absurd hx he
  · exact h
theorem check_same {k : Nat} {lex : List (LexM k)} {ps ps' : List ProdM} {nn nl : Nat} {st : Int} (h : SameP ps ps') (hq : CheckQ lex ps nn nl st (0, 0)) (hn : ps'.length ≤ 512) : CheckQ lex ps' nn nl st (0, 0) := by
  obtain ⟨_, hpa, a2, a3, a4, ⟨q2, z2⟩, ⟨q3, z3⟩, ⟨q4, z4⟩⟩ := checkQ_ok hq rfl
  have hl := hpa.long (by omega)
  have hp := hpa.places (by omega)
  have hst : 0 ≤ st ∧ st < (nn : Int) := by
    by_cases e : 0 ≤ st ∧ st < (nn : Int)
    · exact e
    · unfold placesP at hp
      rw [if_neg e] at hp
      exact absurd hp (by decide)
  have hl2 : longB nl nn ps' = false := by
    unfold longB at hl ⊢
    simp only [Bool.or_eq_false_iff, decide_eq_false_iff_not, List.any_eq_false, decide_eq_true_eq] at hl ⊢
    exact ⟨⟨⟨hl.1.1.1, hl.1.1.2⟩, by omega⟩, fun p hp => hl.2 p ((h p).2 hp)⟩
  have hp2 : placesP lex nn st ps' = (0, 0) := by
    unfold placesP at hp ⊢
    rw [if_pos hst] at hp ⊢
    exact places_all (fun p hm => places_good hp p ((h p).2 hm))
  obtain ⟨y, r1, r2⟩ := q2
  have hy0 : y.1 = 0 := by
    rcases r2 with ⟨n1, e1⟩ | ⟨z, _⟩
    · rw [e1] at z2; exact absurd z2 n1
    · exact z
  have r3 : FirstMiss (fun i => TrivP lex i ∨ RcT ps nl st.toNat i) nl 72 a2 := by
    rcases r2 with ⟨n1, _⟩ | ⟨_, r⟩
    · exact absurd hy0 n1
    · exact r
  refine ⟨(0, 0), by show _ = _; rw [hl2]; rfl, .inr ⟨rfl, ?_⟩⟩
  refine ⟨(0, 0), hp2.symm, .inr ⟨rfl, ?_⟩⟩
  refine ⟨(0, 0), ⟨(0, 0), .inr ⟨fun i hi => rc_same h (miss_none r1 (by decide) hy0 i hi), rfl⟩, .inr ⟨rfl, .inr ⟨fun i hi => (miss_none r3 (by decide) z2 i hi).imp id (rcT_same h), rfl⟩⟩⟩, .inr ⟨rfl, ?_⟩⟩
  have q3 : FirstMiss (Mk true ps) nn 73 a3 := q3
  refine ⟨(0, 0), .inr ⟨fun i hi => mk_same h (miss_none q3 (by decide) z3 i hi), rfl⟩, .inr ⟨rfl, ?_⟩⟩
  have q4 : EmptyQ ps nn a4 := q4
  refine ⟨(0, 0), .inr ⟨fun i hi hm => ?_, rfl⟩, .inr ⟨rfl, rfl⟩⟩
  obtain ⟨k, h1, h2⟩ := miss_none q4 (by decide) z4 i hi (mk_same h.symm hm)
  exact ⟨k, h1, ez_same h h2⟩
/-- What is told of both is the same. -/
theorem null_two {ps ps' : List ProdM} (h : SameP ps ps') {E E' : Nat} (hE : ∀ n, E.testBit n = true ↔ Mk false ps n) (hE' : ∀ n, E'.testBit n = true ↔ Mk false ps' n) (nn : Nat) : ((List.range nn).map fun i => E.testBit i) = (List.range nn).map fun i => E'.testBit i := by
  congr 1
  funext i
  rw [Bool.eq_iff_iff, hE, hE', mkS_eq h]
theorem first_two {nl : Nat} {ps ps' : List ProdM} (h : SameP ps ps') {F F' : Nat → Nat} (hF : ∀ x, famS F x ↔ Fi nl (Mk false ps) ps x) (hF' : ∀ x, famS F' x ↔ Fi nl (Mk false ps') ps' x) : famS F = famS F' := funext (fun x => propext (by rw [hF, hF', mkS_eq h, fiS_eq h]))
theorem fam_bits {F F' : Nat → Nat} (h : famS F = famS F') (i : Nat) : bitsTo (F i) 128 = bitsTo (F' i) 128 := by
  have e : F i = F' i := Nat.eq_of_testBit_eq (fun t => by
    rw [Bool.eq_iff_iff]
    exact iff_of_eq (congrFun h (i, t)))
  rw [e]
theorem follow_two {nl st : Nat} {ps ps' : List ProdM} (h : SameP ps ps') {F F' G G' : Nat → Nat} (hF : famS F = famS F') (hG : ∀ x, famS G x ↔ Fo nl st (Mk false ps) (famS F) ps x) (hG' : ∀ x, famS G' x ↔ Fo nl st (Mk false ps') (famS F') ps' x) : famS G = famS G' := funext (fun x => propext (by rw [hG, hG', mkS_eq h, hF, foS_eq h]))

end Ex
end Go.Proofs.YtggodknnfpegmaaDoor
namespace Go.Proofs.YtggodknnfpegmaaDoor
open Go.RowKit
attribute [local go_sem] Oper.semAt_some
namespace Ex

theorem prod_infoS : (Tryd.prog.info? 40).map (fun i => (i.zero, i.size, i.bytes)) = some (some (.agg #[.int .i64 0, .slice none 0 0]), 2, 32) := by kernel_rfl
/-- Productions of the call's own; their right sides lie in w0. -/
def PrsO (w0 w : World) (base : Nat) (v : Value) (ys : List ProdM) : Prop := ∃ xs, w.ownsRow base 40 2 v ys.length xs ∧ ∀ (i : Nat) (p : ProdM), ys[i]? = some p → ∃ u, xs[i * 2]? = some (.int .i64 p.1) ∧ xs[i * 2 + 1]? = some u ∧ RightAt w0 u p.2
theorem PrsO.lt {w0 w : World} {base : Nat} {v : Value} {ys : List ProdM} (h : PrsO w0 w base v ys) : ∀ g, v.ownBlock = some g → base ≤ g ∧ g < w.heap.size := by
  obtain ⟨xs, h1, _⟩ := h
  exact World.ownsRow.lt h1
theorem PrsO.same {w0 w w' : World} {base : Nat} {v : Value} {ys : List ProdM} (h : PrsO w0 w base v ys) (hh : ∀ g, v.ownBlock = some g → w'.heap[g]? = w.heap[g]?) : PrsO w0 w' base v ys := by
  obtain ⟨xs, h1, h2⟩ := h
  exact ⟨xs, owns_same h1 hh, h2⟩
theorem PrsO.keep {w0 w w' : World} {base : Nat} {v : Value} {ys : List ProdM} (h : PrsO w0 w base v ys) (hk : Kept w w') : PrsO w0 w' base v ys := h.same (fun g hg => hk.2.2.2.2 g (h.lt g hg).2)
theorem PrsO.nil (w0 w : World) (base : Nat) : PrsO w0 w base (.slice none 0 0) [] := ⟨[], World.ownsRow_nil _ _ _ _, fun i p hp => by simp at hp⟩
theorem PrsO.form {w0 w : World} {base : Nat} {v : Value} {ys : List ProdM} (h : PrsO w0 w base v ys) : ∃ a c, v = .slice a ys.length c := by
  obtain ⟨xs, h1, _⟩ := h
  rcases h1.2 with ⟨rfl, h0⟩ | ⟨g, cap, cur, rfl, _⟩
  · exact ⟨none, 0, by rw [h0]⟩
  · exact ⟨_, _, rfl⟩
theorem PrsO.snoc_cells {xs : List Value} {ys : List ProdM} {w0 : World} (hl : xs.length = ys.length * 2) (h : ∀ (i : Nat) (p : ProdM), ys[i]? = some p → ∃ u, xs[i * 2]? = some (.int .i64 p.1) ∧ xs[i * 2 + 1]? = some u ∧ RightAt w0 u p.2) {q : ProdM} {u : Value} (hu : RightAt w0 u q.2) : ∀ (i : Nat) (p : ProdM), (ys ++ [q])[i]? = some p → ∃ u', (xs ++ [.int .i64 q.1, u])[i * 2]? = some (.int .i64 p.1) ∧ (xs ++ [.int .i64 q.1, u])[i * 2 + 1]? = some u' ∧ RightAt w0 u' p.2 := by
  intro i p hp
  by_cases e : i < ys.length
  · rw [List.getElem?_append_left e] at hp
    obtain ⟨u', h1, h2, h3⟩ := h i p hp
    exact ⟨u', by rw [List.getElem?_append_left (by omega)]; exact h1, by rw [List.getElem?_append_left (by omega)]; exact h2, h3⟩
  · have hi : i < (ys ++ [q]).length := (List.getElem?_eq_some_iff.1 hp).1
    have e2 : i = ys.length := by rw [List.length_append] at hi; simp at hi; omega
    subst e2
    rw [List.getElem?_append_right (Nat.le_refl _), Nat.sub_self] at hp
    have hp : q = p := by simpa using hp
    subst hp
    refine ⟨u, ?_, ?_, hu⟩
    · rw [List.getElem?_append_right (by omega), hl, Nat.sub_self]; rfl
    · rw [List.getElem?_append_right (by omega), hl, show ys.length * 2 + 1 - ys.length * 2 = 1 by omega]; rfl
/-- append of one production, at a step of a region that draws its order. -/
theorem step_prod {ops : Array Oper} {o : Oper} {a : Act} {K : Act → World → Prop} {Q : Exit → Act → World → Prop} {E : Prop} (hgd : o.guard = none) (s x : Operand) (ho : o.op = .call { callee := .builtin .append, args := #[s, x], argTypes := #[24, 24] }) (w0 W : World)
    (base : Nat) (v : Value) (ys : List ProdM) (m : Nat) (hm : ys.length = m) (hs : a.eval s = v) (hown : PrsO w0 W base v ys) (lb : Nat) (q : ProdM) (u : Value) (hu1 : u.oneCell' = true) (hu : RightAt w0 u q.2) (hx : a.eval x = .slice (some ⟨lb, 0, none⟩) 1 1) (hbx : W.heap[lb]? = some (.cells #[.int .i64 q.1, u] 40 (0, 0))) (hl : m ≤ 8388608) (hbase : base ≤ W.heap.size)
    (h : ∀ g cap w', PrsO w0 w' base (.slice (some ⟨g, 0, none⟩) (m + 1) cap) (ys ++ [q]) → W.grownBy w' v.ownBlock → K (a.put o.dst (.slice (some ⟨g, 0, none⟩) (m + 1) cap)) w') :
    if Region.wanted o (yielded ops a.tmps) = true then Oper.wp Tryd.prog o a W K Q else E := by
  obtain ⟨i0, hi, hz0, hz1, hz2⟩ := info_parts prod_infoS
  subst hm
  obtain ⟨xs, h1, h2⟩ := hown
  refine step_append_lies W hgd s x 24 ho base 40 i0 _ 2 32 Tryd.underlying24 hi hz0 hz1 hz2 rfl (by decide) v ys.length xs hs h1 ⟨lb, 0, none⟩ 1 1 [.int .i64 q.1, u] hx rfl ?_ ?_ (by decide) (by unfold maxLen; omega) (by omega) hbase W.heap.size rfl ?_
  · intro j y hj
    have hj2 : j < 2 := (List.getElem?_eq_some_iff.1 hj).1
    match j, hj2 with
    | 0, _ => rw [← hj]; simp [World.cell?, Addr.add, hbx]
    | 1, _ => rw [← hj]; simp [World.cell?, Addr.add, hbx]
  · intro y hy
    simp only [List.mem_cons, List.not_mem_nil, or_false] at hy
    rcases hy with rfl | rfl
    · rfl
    · exact hu1
  · intro g cap w' h3 h4 _ _
    refine h g cap w' ⟨xs ++ [.int .i64 q.1, u], ?_, PrsO.snoc_cells h1.1 h2 hu⟩ h4
    rw [List.length_append]
    exact h3
/-- As productions to be read. -/
theorem PrsO.read {w0 w : World} {base : Nat} {v : Value} {ys : List ProdM} (h : PrsO w0 w base v ys) (hk : Kept w0 w) (hl : ys.length ≤ 1000000) : ProdsAt w v ys := by
  obtain ⟨xs, h1, h2⟩ := h
  rcases h1.2 with ⟨rfl, h0⟩ | ⟨g, cap, cur, rfl, _, hg, hc, _, hs, ht⟩
  · have e : ys = [] := List.length_eq_zero_iff.1 h0
    subst e
    exact ⟨none, 0, rfl, Nat.le_refl _, by simp, .inl rfl⟩
  · refine ⟨some ⟨g, 0, none⟩, cap, rfl, hc, by omega, .inr ⟨g, 0, rfl, (Array.getElem?_eq_some_iff.1 hg).1, fun i p hp => ?_⟩⟩
    obtain ⟨u, q1, q2, q3⟩ := h2 i p hp
    refine ⟨[.int .i64 p.1, u], rfl, fun j y hy => ?_, u, rfl, q3.keep hk⟩
    have cellI : ∀ (n : Nat) (z : Value), xs[n]? = some z → w.cell? ⟨g, n, none⟩ = some z := fun n z hz => by
      rw [← ht, List.getElem?_take] at hz
      split at hz
      · simp only [World.cell?, hg]
        simpa using hz
      · cases hz
    match j, hy with
    | 0, hy =>
      have hy : Value.int .i64 p.1 = y := by simpa using hy
      subst hy
      rw [Nat.zero_add, Nat.add_zero]
      exact cellI _ _ q1
    | 1, hy =>
      have hy : u = y := by simpa using hy
      subst hy
      rw [Nat.zero_add]
      exact cellI _ _ q2
    | j + 2, hy => simp at hy
/-- Where the first loop stands: m productions are still to be taken. -/
def TuP (ps : List ProdM) (n k m : Nat) (ys : List ProdM) : Prop := ys.length = n - m ∧ (∀ y ∈ ys, y ∈ ps) ∧ ∀ i p, m ≤ i → i < n → ps[(i + k) % n]? = some p → p ∈ ys
theorem TuP.start (ps : List ProdM) (n k : Nat) : TuP ps n k n [] := ⟨by simp, fun y hy => (by cases hy), fun i p h1 h2 => by omega⟩
theorem TuP.step {ps : List ProdM} {n k m : Nat} {ys : List ProdM} (h : TuP ps n k (m + 1) ys) (hm : m + 1 ≤ n) {p : ProdM} (hp : ps[(m + k) % n]? = some p) : TuP ps n k m (ys ++ [p]) := by
  refine ⟨by rw [List.length_append, h.1]; simp; omega, fun y hy => ?_, fun i q h1 h2 hq => ?_⟩
  · rcases List.mem_append.1 hy with hy | hy
    · exact h.2.1 y hy
    · rw [List.mem_singleton.1 hy]; exact List.mem_of_getElem? hp
  · by_cases e : i = m
    · subst e
      rw [hp] at hq
      injection hq with hq
      subst hq
      exact List.mem_append_right _ (by simp)
    · exact List.mem_append_left _ (h.2.2 i q (by omega) h2 hq)
theorem TuP.all {ps : List ProdM} {n k : Nat} {ys : List ProdM} (h : TuP ps n k 0 ys) (hn : ps.length = n) (hk : k < n) : SameP ps ys := fun p => ⟨fun hp => by
  obtain ⟨j, hj⟩ := List.getElem?_of_mem hp
  have hjn : j < n := by rw [← hn]; exact (List.getElem?_eq_some_iff.1 hj).1
  have e : ((j + n - k) % n + k) % n = j := by
    by_cases hjk : k ≤ j
    · have e1 : (j + n - k) % n = j - k := by
        rw [show j + n - k = (j - k) + n by omega, Nat.add_mod_right, Nat.mod_eq_of_lt (by omega)]
      rw [e1, show j - k + k = j by omega, Nat.mod_eq_of_lt hjn]
    · have e1 : (j + n - k) % n = j + n - k := Nat.mod_eq_of_lt (by omega)
      rw [e1, show j + n - k + k = j + n by omega, Nat.add_mod_right, Nat.mod_eq_of_lt hjn]
  exact h.2.2 ((j + n - k) % n) p (Nat.zero_le _) (Nat.mod_lt _ (by omega)) (by rw [e]; exact hj), fun hp => h.2.1 p hp⟩
theorem SameP.more {ps ys : List ProdM} (h : SameP ps ys) {p : ProdM} (hp : p ∈ ps) : SameP ps (ys ++ [p]) := fun q => ⟨fun hq => List.mem_append_left _ ((h q).1 hq), fun hq => by
  rcases List.mem_append.1 hq with hq | hq
  · exact (h q).2 hq
  · rw [List.mem_singleton.1 hq]; exact hp⟩

end Ex
end Go.Proofs.YtggodknnfpegmaaDoor
namespace Go.Proofs.YtggodknnfpegmaaDoor
open Go.RowKit
attribute [local go_sem] Oper.semAt_some
namespace Ex

/-- The other spec while it is laid: its box is ob, its productions ys are the call's own, their right sides lie in w0. -/
def Oth (w0 : World) (ob : Nat) (x0 x1 x2 : Value) (ys : List ProdM) (wr : World) : Prop := ∃ a n c, ys.length = n ∧ Hid (SBox wr ob x0 x1 x2 (.slice a n c)) ∧ Hid (PrsO w0 wr (ob + 1) (.slice a n c) ys) ∧ Hid (Kept w0 wr)
theorem SBox.set3 {w : World} {b : Nat} {x0 x1 x2 x3 : Value} (h : SBox w b x0 x1 x2 x3) (y : Value) : SBox (w.setCell ⟨b, 3, none⟩ y) b x0 x1 x2 y := by
  unfold SBox at h ⊢
  have hl : b < w.heap.size := (Array.getElem?_eq_some_iff.1 h).1
  have he : w.heap[b] = Obj.cells #[x0, x1, x2, x3] 26 (0, 0) := by rw [Array.getElem?_eq_getElem hl] at h; exact Option.some.inj h
  simp [World.setCell, Array.getElem_modify, hl, he]
theorem SBox.free {w : World} {b : Nat} {x0 x1 x2 x3 : Value} (h : SBox w b x0 x1 x2 x3) : w.frozen? ⟨b, 3, none⟩ = false := by simp [World.frozen?, show w.heap[b]? = _ from h]
theorem oth_grown {w0 X w' : World} {ob : Nat} {x0 x1 x2 v : Value} {ys : List ProdM} (hob : w0.heap.size = ob) (hB : SBox X ob x0 x1 x2 v) (hP : PrsO w0 X (ob + 1) v ys) (hK : Kept w0 X) (hg : X.grownBy w' v.ownBlock) : SBox w' ob x0 x1 x2 v ∧ Kept w0 w' := by
  have ne : ∀ d, d ≤ ob → some d ≠ v.ownBlock := fun d hd e => by have := (hP.lt d e.symm).1; omega
  refine ⟨(hg.block ob hB.lt (ne ob (Nat.le_refl _))).trans hB, hg.os.trans hK.1, hg.tape.trans hK.2.1, hg.output.trans hK.2.2.1, Nat.le_trans hK.size hg.size, fun d hd => ?_⟩
  exact (hg.block d (Nat.lt_of_lt_of_le hd hK.size) (ne d (by omega))).trans (hK.2.2.2.2 d hd)
theorem oth_put {w0 w' : World} {ob g m cap : Nat} {x0 x1 x2 v : Value} {ys : List ProdM} {q : ProdM} (hob : w0.heap.size = ob) (hB : SBox w' ob x0 x1 x2 v) (hK : Kept w0 w') (hm : ys.length = m) (ho : PrsO w0 w' (ob + 1) (.slice (some ⟨g, 0, none⟩) (m + 1) cap) (ys ++ [q])) : Oth w0 ob x0 x1 x2 (ys ++ [q]) (w'.setCell ⟨ob, 3, none⟩ (.slice (some ⟨g, 0, none⟩) (m + 1) cap)) :=
  ⟨_, _, _, by rw [List.length_append, hm]; rfl, hB.set3 _, ho.same (fun d hd => heap_set_ne (by have := (ho.lt d hd).1; omega)), keepB hK (by omega)⟩
/-- Where the law's first loop stands. -/
def TuI (ps : List ProdM) (np k : Nat) (w0 : World) (ob : Nat) (x0 x1 x2 : Value) (v : Value) (wr : World) : Prop := ∃ (m : Nat) (ys : List ProdM), v = .int .i64 ((m : Int) - 1) ∧ m ≤ np ∧ Hid (TuP ps np k m ys) ∧ Oth w0 ob x0 x1 x2 ys wr
/-- Where its second loop stands. -/
def TwI (ps : List ProdM) (n2 : Nat) (w0 : World) (ob : Nat) (x0 x1 x2 : Value) (v : Value) (wr : World) : Prop := ∃ (i : Nat) (ys : List ProdM), v = .int .i64 (i : Int) ∧ i ≤ n2 ∧ Hid (SameP ps ys ∧ ys.length ≤ 512) ∧ Oth w0 ob x0 x1 x2 ys wr
/-- A remainder, counted round. -/
theorem tm_round (t : Int) (n : Nat) (hn : 0 < n) : ∃ r : Nat, r < n ∧ (t.tmod (n : Int) < 0 → (r : Int) = t.tmod (n : Int) + n) ∧ (¬ t.tmod (n : Int) < 0 → (r : Int) = t.tmod (n : Int)) := by
  have hnI : (0 : Int) < (n : Int) := by omega
  have h1 := Int.tmod_lt_of_pos t hnI
  have h2 := Int.lt_tmod_of_pos t hnI
  by_cases h0 : t.tmod (n : Int) < 0
  · exact ⟨(t.tmod (n : Int) + n).toNat, by omega, fun _ => by omega, fun h => absurd h0 h⟩
  · exact ⟨(t.tmod (n : Int)).toNat, by omega, fun h => absurd h h0, fun _ => by omega⟩
theorem check_512 {k : Nat} {lex : List (LexM k)} {ps : List ProdM} {nn nl : Nat} {st : Int} (hq : CheckQ lex ps nn nl st (0, 0)) : ps.length ≤ 512 := by
  have hl := (checkQ_ok hq rfl).2.1.long (by omega)
  unfold longB at hl
  simp only [Bool.or_eq_false_iff, decide_eq_false_iff_not] at hl
  omega
theorem tm_sum {i k n r : Nat} (h : (i + k) % n = r) : ((i : Int) + (k : Int)).tmod (n : Int) = (r : Int) := by
  rw [Int.tmod_eq_emod_of_nonneg (by omega), ← h]
  rfl
/-- What both Tolds hold, read off. -/
def ToldTwo (nn : Nat) (v1 v2 v3 v1' v2' v3' : Value) (ay ay' : Option Addr) (m m' : Nat) (w : World) : Prop := m' = m ∧ ∃ (es : List Bool) (l2 l3 l4 : List (List Int)), (es.length = nn ∧ l2.length = nn ∧ l3.length = nn ∧ l4.length = m) ∧ (BoolsR w v1 es ∧ RowsR w v2 l2 ∧ RowsR w v3 l3 ∧ RowsR w (.slice ay m m) l4) ∧ (BoolsR w v1' es ∧ RowsR w v2' l2 ∧ RowsR w v3' l3 ∧ RowsR w (.slice ay' m m) l4)
theorem bits_len (A : Nat) : (bitsTo A 128).length ≤ 128 := bitsTo_len A 128
theorem rows_nilR (w : World) : RowsR w (.slice none 0 0) [] := ⟨none, 0, rfl, Nat.le_refl _, by simp, .inl rfl⟩
theorem told_two {ps ys : List ProdM} (hs : SameP ps ys) {nl st nn base base' m m' : Nat} {v1 v2 v3 v1' v2' v3' : Value} {ay ay' : Option Addr} {y y' : Int × Int} {w : World} (hn : nn ≤ 17592186044416)
    (o1 : NullOk ps nn base v1 w) (o2 : FirstOk nl ps nn base v2 w) (o3 : FollowOk nl st ps nn base v3 w) (o4 : YldO nl ps nn base y (.slice ay m m) w) (o5 : (y.1 = 0 ∧ m = nn) ∨ (y.1 = 6 ∧ m = 0))
    (p1 : NullOk ys nn base' v1' w) (p2 : FirstOk nl ys nn base' v2' w) (p3 : FollowOk nl st ys nn base' v3' w) (p4 : YldO nl ys nn base' y' (.slice ay' m' m') w) (p5 : (y'.1 = 0 ∧ m' = nn) ∨ (y'.1 = 6 ∧ m' = 0)) :
    (y'.1 == 6) = (y.1 == 6) ∧ ToldTwo nn v1 v2 v3 v1' v2' v3' ay ay' m m' w := by
  obtain ⟨E, hE, b1⟩ := o1
  obtain ⟨E', hE', b1'⟩ := p1
  rw [← null_two hs hE hE' nn] at b1'
  obtain ⟨F, _, hF, b2⟩ := o2
  obtain ⟨F', _, hF', b2'⟩ := p2
  have e2 := first_two hs hF hF'
  rw [show ((List.range nn).map fun i => bitsTo (F' i) 128) = ((List.range nn).map fun i => bitsTo (F i) 128) by congr 1; funext i; exact (fam_bits e2 i).symm] at b2'
  obtain ⟨H, G, _, hH, hG, b3⟩ := o3
  obtain ⟨H', G', _, hH', hG', b3'⟩ := p3
  have e3 := follow_two hs (first_two hs hH hH') hG hG'
  rw [show ((List.range nn).map fun i => bitsTo (G' i) 128) = ((List.range nn).map fun i => bitsTo (G i) 128) by congr 1; funext i; exact (fam_bits e3 i).symm] at b3'
  obtain ⟨L, okL, hL, hor⟩ := o4
  obtain ⟨L', _, hL', hor'⟩ := p4
  have one : ∀ n, L n = L' n := (yis_same hs hL).one hL'
  have eL : L' = L := funext (fun n => (one n).symm)
  subst eL
  have lb : ∀ (Q : Nat → Nat), ∀ l ∈ ((List.range nn).map fun i => bitsTo (Q i) 128), l.length ≤ 17592186044416 := fun Q l hl => by
    obtain ⟨i, _, rfl⟩ := List.mem_map.1 hl
    exact Nat.le_trans (bits_len _) (by decide)
  have ln : ∀ {α : Type} (f : Nat → α), ((List.range nn).map f).length = nn := fun f => by simp
  have r1 := b1.read (by rw [ln]; exact hn)
  have r1' := b1'.read (by rw [ln]; exact hn)
  have r2 := b2.read (by rw [ln]; exact hn) (lb _)
  have r2' := b2'.read (by rw [ln]; exact hn) (lb _)
  have r3 := b3.read (by rw [ln]; exact hn) (lb _)
  have r3' := b3'.read (by rw [ln]; exact hn) (lb _)
  rcases hor with ⟨i, hi, hLi, hk, rfl, hv⟩ | ⟨hall, rfl, hr⟩ <;> rcases hor' with ⟨i', hi', hLi', hk', rfl, hv'⟩ | ⟨hall', rfl, hr'⟩
  · have hm : m = 0 := by rcases o5 with h | h; exact absurd h.1 (by show ¬ (6 : Int) = 0; decide); exact h.2
    have hm' : m' = 0 := by rcases p5 with h | h; exact absurd h.1 (by show ¬ (6 : Int) = 0; decide); exact h.2
    subst hm hm'
    simp only [Value.slice.injEq] at hv hv'
    obtain ⟨rfl, _⟩ := hv
    obtain ⟨rfl, _⟩ := hv'
    exact ⟨rfl, rfl, _, _, _, [], ⟨ln _, ln _, ln _, rfl⟩, ⟨r1, r2, r3, rows_nilR w⟩, ⟨r1', r2', r3', rows_nilR w⟩⟩
  · exact absurd hLi (hall' i hi)
  · exact absurd hLi' (hall i' hi')
  · have hm : m = nn := by rcases o5 with h | h; exact h.2; exact absurd h.1 (by decide)
    have hm' : m' = nn := by rcases p5 with h | h; exact h.2; exact absurd h.1 (by decide)
    obtain ⟨q, hq⟩ : ∃ q, nn = q := ⟨_, rfl⟩
    rw [hq] at hm hm'
    subst hm hm'
    have ly : ∀ l ∈ ((List.range nn).map fun i => (L' i).getD []), l.length ≤ 17592186044416 := fun l hl => by
      obtain ⟨i, _, rfl⟩ := List.mem_map.1 hl
      cases e : L' i with
      | none => simp
      | some r => exact Nat.le_trans (okL i r e).2 (by decide)
    exact ⟨rfl, rfl, _, _, _, _, ⟨ln _, ln _, ln _, (ln _).trans hq⟩, ⟨r1, r2, r3, hr.read (by rw [ln]; exact hn) ly⟩, ⟨r1', r2', r3', hr'.read (by rw [ln]; exact hn) ly⟩⟩

end Ex
end Go.Proofs.YtggodknnfpegmaaDoor
namespace Go.Proofs.YtggodknnfpegmaaDoor
open Go.RowKit
attribute [local go_sem] Oper.semAt_some
namespace Ex

def HaI (l : List Int) (n : Int) (w : World) (vi : Value) (wr : World) : Prop := ∃ j : Nat, vi = .int .i64 (j : Int) ∧ j ≤ l.length ∧ Hid (n ∉ l.take j) ∧ wr = w
/-- The places of a name's productions, of the first n. -/
def ownTo (ps : List ProdM) (x : Int) (n : Nat) : List Nat := (List.range n).filter fun i => decide (∃ p, ps[i]? = some p ∧ p.1 = x)
theorem ownTo_yes {ps : List ProdM} {x : Int} {n : Nat} {p : ProdM} (hp : ps[n]? = some p) (h : p.1 = x) : ownTo ps x (n + 1) = ownTo ps x n ++ [n] := by
  unfold ownTo
  rw [List.range_succ, List.filter_append]
  congr 1
  simp [hp, h]
theorem ownTo_no {ps : List ProdM} {x : Int} {n : Nat} {p : ProdM} (hp : ps[n]? = some p) (h : p.1 ≠ x) : ownTo ps x (n + 1) = ownTo ps x n := by
  unfold ownTo
  rw [List.range_succ, List.filter_append]
  simp [hp, h]
theorem ownTo_len (ps : List ProdM) (x : Int) (n : Nat) : (ownTo ps x n).length ≤ n := Nat.le_trans (List.length_filter_le _ _) (by simp)
theorem ownTo_mem {ps : List ProdM} {x : Int} {n i : Nat} (h : i ∈ ownTo ps x n) : ∃ p, ps[i]? = some p ∧ p.1 = x := by
  unfold ownTo at h
  simpa using (List.mem_filter.1 h).2
theorem ownTo_has {ps : List ProdM} {x : Int} {p : ProdM} (hp : p ∈ ps) (h : p.1 = x) : ownTo ps x ps.length ≠ [] := by
  obtain ⟨i, hi⟩ := List.getElem?_of_mem hp
  intro e
  have : i ∈ ownTo ps x ps.length := List.mem_filter.2 ⟨List.mem_range.2 (List.getElem?_eq_some_iff.1 hi).1, by simp [hi, h]⟩
  rw [e] at this
  cases this
def natsI (l : List Nat) : List Int := l.map fun i : Nat => (i : Int)
theorem grown_own {w0 W w' : World} {v : Value} {l : List Int} {c : Array Value} {t : TypeId} {base : Nat} (h : Kept w0 W) (hb : w0.heap.size ≤ base) (ho : IntsO W base v l) (hg : (W.alloc (.cells c t)).grownBy w' v.ownBlock) : Kept w0 w' :=
  ⟨hg.os.trans h.1, hg.tape.trans h.2.1, hg.output.trans h.2.2.1, Nat.le_trans h.size (Nat.le_trans (allocS_le W _) hg.size), fun d hd => (hg.block d (by simp; have := h.size; omega) (fun e => by have := (ho.lt d e.symm).1; omega)).trans ((heap_alloc_old W _ (Nat.lt_of_lt_of_le hd h.size)).trans (h.2.2.2.2 d hd))⟩
theorem IntsO.low {w : World} {base b : Nat} {v : Value} {l : List Int} (h : IntsO w base v l) (hb : b ≤ base) : IntsO w b v l := by
  have h2 : w.ownsRow base 3 1 v l.length (flatS l) := h
  refine ⟨h2.1, ?_⟩
  rcases h2.2 with ⟨e, h0⟩ | ⟨g, cap, cur, e, hg0, rest⟩
  · exact .inl ⟨e, h0⟩
  · exact .inr ⟨g, cap, cur, e, Nat.le_trans hb hg0, rest⟩
def OwI (ps : List ProdM) (x : Int) (W : World) (v5 vi : Value) (wr : World) : Prop := ∃ j n : Nat, vi = .int .i64 (j : Int) ∧ j ≤ ps.length ∧ (∃ a c, v5 = .slice a n c) ∧ Hid ((natsI (ownTo ps x j)).length = n) ∧ n ≤ j ∧ Hid (IntsO wr W.heap.size v5 (natsI (ownTo ps x j))) ∧ Hid (Kept W wr)
end Ex
end Go.Proofs.YtggodknnfpegmaaDoor
