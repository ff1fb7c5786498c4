import Derived.Test.YteckbpmliahhhaaTrMk2
import Derived.ScopeJumps
namespace Go.Proofs.Yteckbpmliahhhaa
open Go.RowKit
attribute [local go_sem] Oper.semAt_some
namespace Ex
namespace Tr

/-- A scope whose label is jumped to. -/
theorem wp_scope_once {P : Program} {a : Act} {w : World} {Q : Exit → Act → World → Prop} {c rest : Code} (l : Nat) (J : Act → World → Prop) (μ : Act → World → Nat) (hf : findLabel c l = some (Code.seq .skip rest))
    (pass : ∀ a w, J a w → rest.wp P (Exit.jump l (fun a' w' => J a' w' ∧ μ a' w' < μ a w) Q) a w)
    (first : (∀ a w, J a w → rest.wp P (Exit.jump l J Q) a w) → c.wp P (Exit.jump l J Q) a w) : (Code.scope c).wp P Q a w :=
  wp_scope_jumps l J μ hf (first (fun a w hJ => Code.wp_mono (fun e a w h => by cases e <;> first | exact h | exact ⟨h.1, h.2.1⟩) (pass a w hJ))) (fun a w hJ => wp_seq (wp_skip (pass a w hJ)))
def nthV : List Value → Nat → Value
  | [], _ => undef
  | v :: _, 0 => v
  | _ :: l, k + 1 => nthV l k

/-- Nodes R of a forest, in blocks below B. -/
def Forest (R : Nat → Prop) (N : Nat → Nd) (B : Nat) (w : World) : Prop := ∀ b, R b → NodeAt B w b (N b) ∧ NdOk (N b) ∧ ((N b).kind = 1 → (N b).kids = []) ∧ (∀ q ∈ (N b).kids, R q.1) ∧ (N b).size = 1 + sizeS N ((N b).kids.map Prod.fst)
theorem Forest.kb {R : Nat → Prop} {N : Nat → Nd} {B : Nat} {w w' : World} (h : Forest R N B w) (hk : KB B w w') : Forest R N B w' := fun b hb => ⟨(h b hb).1.kb hk, (h b hb).2⟩
theorem mem_size {N : Nat → Nd} {b : Nat} : ∀ {ks : List Nat}, b ∈ ks → (N b).size ≤ sizeS N ks
  | c :: ks, h => by
    unfold sizeS
    simp only [List.map_cons, List.sum_cons]
    rcases List.mem_cons.1 h with rfl | h
    · omega
    · have := mem_size (N := N) h
      unfold sizeS at this
      omega
theorem Forest.kid {R : Nat → Prop} {N : Nat → Nd} {B : Nat} {w : World} (h : Forest R N B w) {b : Nat} (hb : R b) {q : Nat × Nat} (hq : q ∈ (N b).kids) : R q.1 ∧ (N q.1).size < (N b).size := by
  obtain ⟨_, _, _, h1, h2⟩ := h b hb
  refine ⟨h1 q hq, ?_⟩
  have := mem_size (N := N) (List.mem_map_of_mem (f := Prod.fst) hq)
  omega

theorem open_info : (Try.prog.info? 128).map (fun i => (i.zero, i.size, i.bytes)) = some (some (.agg #[.pointer none, .int .i64 0]), 2, 16) := by kernel_rfl
/-- The nodes that are open, with the next child's number; the last is the lowest. -/
def OOwn (w : World) (base : Nat) (ov : Value) (sk : List (Nat × Nat)) : Prop := w.ownsRow base 128 2 ov sk.length (flatK sk)
def WayAt (w : World) (D : Nat) (ov : Value) (at_ : Nat) : Prop := w.heap[D]? = some (.cells #[ov, .int .i64 (at_ : Int)] 112 (0, 0))
theorem WayAt.lt {w : World} {D at_ : Nat} {ov : Value} (h : WayAt w D ov at_) : D < w.heap.size := (Array.getElem?_eq_some_iff.1 h).1
theorem WayAt.cells {w : World} {D at_ : Nat} {ov : Value} (h : WayAt w D ov at_) : w.cell? ⟨D, 0, none⟩ = some ov ∧ w.cell? ⟨D, 1, none⟩ = some (.int .i64 (at_ : Int)) ∧ w.frozen? ⟨D, 0, none⟩ = false ∧ w.frozen? ⟨D, 1, none⟩ = false := by
  unfold WayAt at h
  refine ⟨?_, ?_, ?_, ?_⟩ <;> simp [World.cell?, World.frozen?, h]
theorem WayAt.setO {w : World} {D at_ : Nat} {ov : Value} (h : WayAt w D ov at_) (v : Value) : WayAt (w.setCell ⟨D, 0, none⟩ v) D v at_ := by
  have hl := h.lt
  unfold WayAt at h ⊢
  have he := Option.some.inj ((Array.getElem?_eq_getElem hl).symm.trans h)
  simp [World.setCell, Array.getElem_modify, hl, he]
theorem WayAt.setA {w : World} {D at_ : Nat} {ov : Value} (h : WayAt w D ov at_) (v : Nat) : WayAt (w.setCell ⟨D, 1, none⟩ (.int .i64 (v : Int))).drew D ov v := by
  show WayAt (w.setCell ⟨D, 1, none⟩ (.int .i64 (v : Int))) D ov v
  have hl := h.lt
  unfold WayAt at h ⊢
  have he := Option.some.inj ((Array.getElem?_eq_getElem hl).symm.trans h)
  simp [World.setCell, Array.getElem_modify, hl, he]
theorem OOwn.last {w : World} {base : Nat} {ov : Value} {pre : List (Nat × Nat)} {q : Nat × Nat} (h : OOwn w base ov (pre ++ [q])) : ∃ g cap, ov = .slice (some ⟨g, 0, none⟩) (pre.length + 1) cap ∧ base ≤ g ∧ g < w.heap.size ∧ pre.length + 1 ≤ cap ∧ w.cell? ⟨g, pre.length * 2, none⟩ = some (.pointer (some ⟨q.1, 0, none⟩)) ∧ w.cell? ⟨g, pre.length * 2 + 1, none⟩ = some (.int .i64 (q.2 : Int)) ∧ w.frozen? ⟨g, pre.length * 2 + 1, none⟩ = false := by
  rcases h.2 with ⟨rfl, h0⟩ | ⟨g, cap, cur, rfl, hb, hg, hc, _, _, hx⟩
  · simp at h0
  · have hr := row_cells hg hx
    have hf := flatK_at (pre ++ [q]) pre.length q (by simp)
    rw [List.length_append] at hc ⊢
    exact ⟨g, cap, rfl, hb, (Array.getElem?_eq_some_iff.1 hg).1, hc, hr _ _ hf.1, hr _ _ hf.2, by simp [World.frozen?, hg]⟩
theorem OOwn.pop {w : World} {base g cap : Nat} {pre : List (Nat × Nat)} {q : Nat × Nat} (h : OOwn w base (.slice (some ⟨g, 0, none⟩) (pre.length + 1) cap) (pre ++ [q])) : OOwn w base (.slice (some ⟨g, 0, none⟩) pre.length cap) pre := by
  rcases h.2 with ⟨h0, _⟩ | ⟨g', cap', cur, he, hb, hg, hc, hm, hsz, hx⟩
  · cases h0
  · injection he with e1 e2 e3
    injection e1 with e1
    injection e1 with e1
    subst e1
    subst e3
    refine ⟨flatK_len pre, .inr ⟨g, cap, cur, rfl, hb, hg, ?_, hm, hsz, ?_⟩⟩
    · rw [List.length_append] at hc
      exact Nat.le_trans (Nat.le_add_right _ _) hc
    · have e : (cur.toList.take ((pre ++ [q]).length * 2)).take (pre.length * 2) = (flatK (pre ++ [q])).take (pre.length * 2) := by rw [hx]
      rw [List.take_take, flatK_app, List.take_append_of_le_length (by rw [flatK_len]; exact Nat.le_refl _), Nat.min_eq_left (by rw [List.length_append]; omega)] at e
      rw [e, ← flatK_len pre, List.take_length]
theorem OOwn.next {w : World} {base g cap : Nat} {pre : List (Nat × Nat)} {q : Nat × Nat} (h : OOwn w base (.slice (some ⟨g, 0, none⟩) (pre.length + 1) cap) (pre ++ [q])) (i : Nat) : OOwn (w.setCell ⟨g, pre.length * 2 + 1, none⟩ (.int .i64 (i : Int))) base (.slice (some ⟨g, 0, none⟩) (pre.length + 1) cap) (pre ++ [(q.1, i)]) := by
  rcases h.2 with ⟨h0, _⟩ | ⟨g', cap', cur, he, hb, hg, hc, hm, hsz, hx⟩
  · cases h0
  · injection he with e1 e2 e3
    injection e1 with e1
    injection e1 with e1
    subst e1
    subst e3
    have hl := (Array.getElem?_eq_some_iff.1 hg).1
    have he := Option.some.inj ((Array.getElem?_eq_getElem hl).symm.trans hg)
    refine ⟨flatK_len _, .inr ⟨g, cap, cur.setIfInBounds (pre.length * 2 + 1) (.int .i64 (i : Int)), by simp, hb, ?_, by simpa using hc, hm, by simpa using hsz, ?_⟩⟩
    · simp [World.setCell, Array.getElem_modify, hl, he]
    · rw [List.length_append] at hx ⊢
      rw [flatK_app] at hx ⊢
      rw [Array.toList_setIfInBounds, List.take_set, show ([q] : List (Nat × Nat)).length = 1 from rfl] at *
      rw [show ([(q.1, i)] : List (Nat × Nat)).length = 1 from rfl, hx, List.set_append, if_neg (by rw [flatK_len]; omega), flatK_len]
      rw [show pre.length * 2 + 1 - pre.length * 2 = 1 by omega]
      rfl
/-- What is still to come, by the open nodes, the lowest first. -/
def pendL (N : Nat → Nd) : List (Nat × Nat) → List Nat
  | [] => []
  | q :: s => ((N q.1).kids.map Prod.fst).drop q.2 ++ pendL N s
/-- The open nodes are of the forest, and not too many. -/
def SkOk (R : Nat → Prop) (N : Nat → Nd) (M : Nat) (sk : List (Nat × Nat)) : Prop := ∀ (i : Nat) (q : Nat × Nat), sk[i]? = some q → R q.1 ∧ (N q.1).size + i ≤ M ∧ q.2 ≤ (N q.1).kids.length
def OwnRel (g : Option Nat) (H : Nat) (ov : Value) : Prop := ov.ownBlock = g ∨ ∃ h, ov.ownBlock = some h ∧ H ≤ h
theorem TK.kb {b B base : Nat} {ov : Value} {w w' : World} (h : TK b ov.ownBlock w w') (hB : B ≤ b) (hb : b < base) (hl : b < w.heap.size) (ho : ∀ g, ov.ownBlock = some g → base ≤ g) : KB B w w' := ⟨h.2.2.2.1, fun d hd => h.2.2.2.2 d (by omega) (by omega) (fun e => by have := ho d e.symm; omega)⟩
/-- Where the walk stands: what is still to come is ps. -/
def WaySt (R : Nat → Prop) (N : Nat → Nd) (M D base : Nat) (g : Option Nat) (H at_ : Nat) (ps : List Nat) (w w' : World) : Prop :=
  ∃ ov sk, WayAt w' D ov at_ ∧ OOwn w' base ov sk ∧ SkOk R N M sk ∧ pendL N sk.reverse = ps ∧ OwnRel g H ov ∧ TK D g w w'
def BehFr (D b : Nat) (a : Act) : Prop := ∃ T : Nat → Value, a = { tmps := #[.pointer (some ⟨D, 0, none⟩), .pointer (some ⟨b, 0, none⟩), T 2, T 3, .pointer none, T 5, T 6, T 7, T 8, T 9, T 10, T 11, T 12, T 13, T 14, T 15, T 16, T 17, T 18, T 19, T 20, T 21, T 22, T 23, T 24, T 25, T 26, T 27, T 28, T 29, T 30, T 31, T 32, T 33, T 34, T 35, T 36, T 37, T 38, T 39, T 40, T 41, T 42, T 43, T 44, T 45, T 46, T 47, T 48, T 49, T 50, T 51, T 52, T 53, T 54, T 55, T 56, T 57, T 58, T 59, T 60, T 61, T 62, T 63, T 64, T 65, T 66, T 67, T 68, T 69, T 70, T 71, T 72, T 73, T 74, T 75, T 76, T 77, T 78, T 79, T 80, T 81, T 82, T 83, T 84, T 85, T 86, T 87, T 88, T 89, T 90, T 91], defers := [] }
theorem behFr_of {D b : Nat} (L : List Value) (h : L = [.pointer (some ⟨D, 0, none⟩), .pointer (some ⟨b, 0, none⟩), nthV L 2, nthV L 3, .pointer none, nthV L 5, nthV L 6, nthV L 7, nthV L 8, nthV L 9, nthV L 10, nthV L 11, nthV L 12, nthV L 13, nthV L 14, nthV L 15, nthV L 16, nthV L 17, nthV L 18, nthV L 19, nthV L 20, nthV L 21, nthV L 22, nthV L 23, nthV L 24, nthV L 25, nthV L 26, nthV L 27, nthV L 28, nthV L 29, nthV L 30, nthV L 31, nthV L 32, nthV L 33, nthV L 34, nthV L 35, nthV L 36, nthV L 37, nthV L 38, nthV L 39, nthV L 40, nthV L 41, nthV L 42, nthV L 43, nthV L 44, nthV L 45, nthV L 46, nthV L 47, nthV L 48, nthV L 49, nthV L 50, nthV L 51, nthV L 52, nthV L 53, nthV L 54, nthV L 55, nthV L 56, nthV L 57, nthV L 58, nthV L 59, nthV L 60, nthV L 61, nthV L 62, nthV L 63, nthV L 64, nthV L 65, nthV L 66, nthV L 67, nthV L 68, nthV L 69, nthV L 70, nthV L 71, nthV L 72, nthV L 73, nthV L 74, nthV L 75, nthV L 76, nthV L 77, nthV L 78, nthV L 79, nthV L 80, nthV L 81, nthV L 82, nthV L 83, nthV L 84, nthV L 85, nthV L 86, nthV L 87, nthV L 88, nthV L 89, nthV L 90, nthV L 91]) : BehFr D b { tmps := L.toArray, defers := [] } := ⟨nthV L, by rw [← h]⟩
/-- How many nodes are open. -/
def openN (D : Nat) (w : World) : Nat := match w.cell? ⟨D, 0, none⟩ with | some (.slice _ n _) => n | _ => 0
/-- What behind answers. -/
def BehR (R : Nat → Prop) (N : Nat → Nd) (M D base : Nat) (g : Option Nat) (at_ : Nat) (ps : List Nat) (w : World) (e : Ending) (w' : World) : Prop :=
  match ps with
  | [] => e = .returned (.pointer none) ∧ WaySt R N M D base g w.heap.size at_ [] w w'
  | k :: rest => e = .returned (.pointer (some ⟨k, 0, none⟩)) ∧ R k ∧ (∃ ov sk, WayAt w' D ov at_ ∧ OOwn w' base ov sk ∧ SkOk R N M sk ∧ pendL N sk.reverse = rest ∧ OwnRel g w.heap.size ov ∧ TK D g w w' ∧ (N k).size + sk.length ≤ M)

theorem wpl_open {ops : Array Oper} {rest : List Oper} {o : Oper} {a : Act} {Q : Exit → Act → World → Prop} (hgd : o.guard = none) (s x : Operand) (ho : o.op = .call { callee := .builtin .append, args := #[s, x], argTypes := #[110, 110] }) (w : World)
    (base : Nat) (v : Value) (l : List (Nat × Nat)) (m : Nat) (hm : l.length = m) (hs : a.eval s = v) (hown : OOwn w base v l) (lb k wd : Nat) (hx : a.eval x = .slice (some ⟨lb, 0, none⟩) 1 1) (hbx : w.heap[lb]? = some (.cells #[.pointer (some ⟨k, 0, none⟩), .int .i64 (wd : Int)] 128 (0, 0))) (hl : l.length ≤ 4194304) (hbase : base ≤ w.heap.size)
    (h : ∀ g cap w', OOwn w' base (.slice (some ⟨g, 0, none⟩) (m + 1) cap) (l ++ [(k, wd)]) → w.grownBy w' v.ownBlock → (v.ownBlock = some g ∨ g = w.heap.size) → g < w'.heap.size → wpList Try.prog ops Q rest (a.put o.dst (.slice (some ⟨g, 0, none⟩) (m + 1) cap)) w') :
    wpList Try.prog ops Q (o :: rest) a w := by
  obtain ⟨i0, hi, hz0, hz1, hz2⟩ := info_parts open_info
  subst hm
  refine wpList_append_lies w hgd s x 110 ho base 128 i0 _ 2 16 Try.underlying110 hi hz0 hz1 hz2 rfl (by decide) v l.length (flatK l) hs hown ⟨lb, 0, none⟩ 1 1 [.pointer (some ⟨k, 0, none⟩), .int .i64 (wd : Int)] hx rfl ?_ ?_ (by decide) (by unfold maxLen; omega) (by omega) hbase w.heap.size rfl ?_
  · intro j y hj
    have hj2 : j < 2 := (List.getElem?_eq_some_iff.1 hj).1
    match j, hj2 with
    | 0, _ => rw [← hj]; simp [World.cell?, Addr.add, hbx]
    | 1, _ => rw [← hj]; simp [World.cell?, Addr.add, hbx]
  · intro u hu
    simp only [List.mem_cons, List.not_mem_nil, or_false] at hu
    rcases hu with rfl | rfl <;> rfl
  · intro g cap w' h1 h2 h3 h4
    refine h g cap w' ?_ h2 h3 h4
    unfold OOwn
    rw [flatK_app, List.length_append]
    exact h1
theorem OOwn.form {w : World} {base : Nat} {ov : Value} {l : List (Nat × Nat)} (h : OOwn w base ov l) : ∃ a c, ov = .slice a l.length c := by
  rcases h.2 with ⟨rfl, h0⟩ | ⟨g, cap, cur, rfl, _⟩
  · exact ⟨none, 0, by rw [h0]⟩
  · exact ⟨_, _, rfl⟩
theorem SkOk.push {R : Nat → Prop} {N : Nat → Nd} {M b : Nat} {sk : List (Nat × Nat)} (h : SkOk R N M sk) (hb : R b) (hM : (N b).size + sk.length ≤ M) : SkOk R N M (sk ++ [(b, 0)]) := fun i q hq => by
  rcases Nat.lt_or_ge i sk.length with hi | hi
  · rw [List.getElem?_append_left hi] at hq
    exact h i q hq
  · rw [List.getElem?_append_right hi] at hq
    have hi2 : i - sk.length = 0 := by
      rcases Nat.eq_zero_or_pos (i - sk.length) with h | h
      · exact h
      · rw [List.getElem?_eq_none (by exact h)] at hq; cases hq
    rw [hi2] at hq
    simp only [List.getElem?_cons_zero, Option.some.injEq] at hq
    subst hq
    exact ⟨hb, by show (N b).size + i ≤ M; omega, Nat.zero_le _⟩
theorem SkOk.front {R : Nat → Prop} {N : Nat → Nd} {M : Nat} {pre : List (Nat × Nat)} {q : Nat × Nat} (h : SkOk R N M (pre ++ [q])) : SkOk R N M pre := fun i r hr => h i r (by rw [List.getElem?_append_left (List.getElem?_eq_some_iff.1 hr).1]; exact hr)
theorem SkOk.top {R : Nat → Prop} {N : Nat → Nd} {M : Nat} {pre : List (Nat × Nat)} {q : Nat × Nat} (h : SkOk R N M (pre ++ [q])) : R q.1 ∧ (N q.1).size + pre.length ≤ M ∧ q.2 ≤ (N q.1).kids.length := h pre.length q (by simp)
theorem SkOk.next {R : Nat → Prop} {N : Nat → Nd} {M : Nat} {pre : List (Nat × Nat)} {q : Nat × Nat} (h : SkOk R N M (pre ++ [q])) (hq : q.2 < (N q.1).kids.length) : SkOk R N M (pre ++ [(q.1, q.2 + 1)]) := fun i r hr => by
  rcases Nat.lt_or_ge i pre.length with hi | hi
  · exact h i r (by rw [List.getElem?_append_left hi] at hr ⊢; exact hr)
  · rw [List.getElem?_append_right hi] at hr
    have hi2 : i - pre.length = 0 := by
      rcases Nat.eq_zero_or_pos (i - pre.length) with h | h
      · exact h
      · rw [List.getElem?_eq_none (by exact h)] at hr; cases hr
    rw [hi2] at hr
    simp only [List.getElem?_cons_zero, Option.some.injEq] at hr
    subst hr
    have ht := h.top
    exact ⟨ht.1, by show (N q.1).size + i ≤ M; omega, hq⟩
theorem OwnRel.lt {g : Option Nat} {H base : Nat} {ov : Value} (h : OwnRel g H ov) (hg : ∀ d, g = some d → base ≤ d) (hH : base ≤ H) : ∀ d, ov.ownBlock = some d → base ≤ d := fun d hd => by
  rcases h with h | ⟨k, h, hk⟩
  · exact hg d (h.symm.trans hd)
  · rw [h] at hd
    injection hd with hd
    omega

end Tr
end Ex
end Go.Proofs.Yteckbpmliahhhaa

