import Derived.Test.YthjagnnbhpfpoaaRopeSeq
import Derived.Test.YthjagnnbhpfpoaaRopeSameStr
import Derived.Test.YthjagnnbhpfpoaaRopeMake
import Derived.LaidEqlPtr
import Derived.Laws.StructEq
namespace Go.Proofs.Ythjagnnbhpfpoaa
open Go.RowKit
attribute [local go_sem] Oper.semAt_some
namespace Rope

theorem list_of_cells {w : World} {c o : Nat} : ∀ {xs ys : List Int}, xs.length = ys.length → (∀ j x, xs[j]? = some x → w.cell? ⟨c, o + j, none⟩ = some (.int .u8 x)) → (∀ j x, ys[j]? = some x → w.cell? ⟨c, o + j, none⟩ = some (.int .u8 x)) → xs = ys := by
  intro xs ys hl h1 h2
  apply List.ext_getElem hl
  intro i hi hi'
  have a := h1 i _ (List.getElem?_eq_getElem hi)
  have b := h2 i _ (List.getElem?_eq_getElem hi')
  rw [a] at b
  injection b with b
  injection b
theorem SliceAt.one {S S' : Nat → Prop} {w : World} {v : Value} {xs ys : List Int} (h1 : SliceAt S w v xs) (h2 : SliceAt S' w v ys) : xs = ys := by
  obtain ⟨c, o, cap, rfl, _, _, hc, _⟩ := h1
  obtain ⟨c', o', cap', he, _, _, hc', _⟩ := h2
  simp only [Value.slice.injEq, Option.some.injEq, Addr.mk.injEq] at he
  obtain ⟨⟨rfl, rfl, _⟩, hl, _⟩ := he
  exact list_of_cells hl hc hc'
theorem PartAt.one {S S' : Nat → Prop} {w : World} : ∀ {n m b h h' : Nat} {xs ys : List Int}, PartAt S w n b h xs → PartAt S' w m b h' ys → xs = ys := by
  intro n
  induction n with
  | zero =>
    rintro m b h h' xs ys ⟨_, h1⟩ h2
    obtain ⟨_, _, v, hc, hv⟩ := h1
    cases m with
    | zero =>
      obtain ⟨_, _, _, v', hc', hv'⟩ := h2
      have := hc.2.2.1.symm.trans hc'.2.2.1
      injection this with this; subst this
      exact hv.one hv'
    | succ m =>
      rcases h2 with ⟨_, _, _, v', hc', hv'⟩ | ⟨l, r, hl, hr, bl, br, _, _, _, hc', _⟩
      · have := hc.2.2.1.symm.trans hc'.2.2.1
        injection this with this; subst this
        exact hv.one hv'
      · have := hc.1.symm.trans hc'.1
        injection this with this; cases this
  | succ n ih =>
    rintro m b h h' xs ys h1 h2
    rcases h1 with ⟨_, _, _, v, hc, hv⟩ | ⟨l, r, hl, hr, bl, br, _, rfl, _, hc, pl, pr⟩
    · cases m with
      | zero =>
        obtain ⟨_, _, _, v', hc', hv'⟩ := h2
        have := hc.2.2.1.symm.trans hc'.2.2.1
        injection this with this; subst this
        exact hv.one hv'
      | succ m =>
        rcases h2 with ⟨_, _, _, v', hc', hv'⟩ | ⟨l, r, hl, hr, bl, br, _, _, _, hc', _⟩
        · have := hc.2.2.1.symm.trans hc'.2.2.1
          injection this with this; subst this
          exact hv.one hv'
        · have := hc.1.symm.trans hc'.1
          injection this with this; cases this
    · cases m with
      | zero =>
        obtain ⟨_, _, _, v', hc', hv'⟩ := h2
        have := hc.1.symm.trans hc'.1
        injection this with this; cases this
      | succ m =>
        rcases h2 with ⟨_, _, _, v', hc', hv'⟩ | ⟨l', r', hl', hr', bl', br', _, rfl, _, hc', pl', pr'⟩
        · have := hc.1.symm.trans hc'.1
          injection this with this; cases this
        · have e1 := hc.1.symm.trans hc'.1
          have e2 := hc.2.1.symm.trans hc'.2.1
          simp only [at_, Option.some.injEq, Value.pointer.injEq, Addr.mk.injEq] at e1 e2
          obtain ⟨rfl, _⟩ := e1
          obtain ⟨rfl, _⟩ := e2
          rw [ih pl pl', ih pr pr']
theorem TreeAt.one {S S' : Nat → Prop} {w : World} {p : Value} {xs ys : List Int} (h1 : TreeAt S w p xs) (h2 : TreeAt S' w p ys) : xs = ys := by
  rcases h1 with ⟨rfl, rfl⟩ | ⟨b, h, rfl, n, h1⟩
  · rcases h2 with ⟨_, rfl⟩ | ⟨_, _, h, _⟩
    · rfl
    · cases h
  · rcases h2 with ⟨h, _⟩ | ⟨b', h', he, m, h2⟩
    · cases h
    · simp only [at_, Value.pointer.injEq, Option.some.injEq, Addr.mk.injEq] at he
      obtain ⟨rfl, _⟩ := he
      exact h1.one h2

theorem ListAt.tight {S : Nat → Prop} {w : World} {v : Value} {xs : List Int} (h : ListAt S w v xs) : ListAt (fun x => S x ∧ x < w.heap.size) w v xs := by
  by_cases h0 : xs = []
  · subst h0
    obtain ⟨a, cap, rfl⟩ := h.form
    exact .inl ⟨rfl, _, _, rfl⟩
  · rcases h with ⟨h, _⟩ | ⟨c, o, cap, h1, h2, h3, h4, h5⟩
    · exact absurd h h0
    · refine .inr ⟨c, o, cap, h1, h2, ⟨h3, ?_⟩, h4, h5⟩
      cases xs with
      | nil => exact absurd rfl h0
      | cons x r => exact World.block_lt_of_cell? w _ (h4 0 x rfl)
theorem TrailAt.tight {S : Nat → Prop} {w : World} {q : Value} {ys : List Int} (h : TrailAt S w q ys) : TrailAt (fun x => S x ∧ x < w.heap.size) w q ys := by
  obtain ⟨n, h⟩ := h
  refine ⟨n, ?_⟩
  induction n generalizing q ys with
  | zero => exact h
  | succ n ih =>
    obtain ⟨b, p, hh, u, xs, zs, h1, h2, h3, h4, h5, h6, h7⟩ := h
    exact ⟨b, p, hh, u, xs, zs, h1, ⟨h2, World.block_lt_of_cell? w ⟨b, 0, none⟩ h3⟩, h3, h4, h5.tight, ih h6, h7⟩
theorem TrailAt.wide {S S' : Nat → Prop} {w : World} {q : Value} {ys : List Int} (h : TrailAt S w q ys) (hS : ∀ b, S b → S' b) : TrailAt S' w q ys := by
  obtain ⟨n, h⟩ := h
  refine ⟨n, ?_⟩
  induction n generalizing q ys with
  | zero => exact h
  | succ n ih =>
    obtain ⟨b, p, hh, u, xs, zs, h1, h2, h3, h4, h5, h6, h7⟩ := h
    exact ⟨b, p, hh, u, xs, zs, h1, hS b h2, h3, h4, h5.wide hS, ih h6, h7⟩
/-- A reader reads what lies already. -/
theorem ReaderAt.turn {S S' : Nat → Prop} {w : World} {D i : Nat} {pc rs : List Int} (h : ReaderAt S w D i pc rs) (hS : ∀ b, S b → b < w.heap.size → S' b) (hD : ¬ S' D) : ReaderAt S' w D i pc rs := by
  obtain ⟨_, h2, v, u, h3, h4, h5, h6, h7⟩ := h
  refine ⟨hD, h2, v, u, h3, h4, h5, ?_, h7.tight.wide (fun b hb => hS b hb.1 hb.2)⟩
  exact h6.tight.mono (Same.refl _ _) (fun b hb => hS b hb.1 hb.2)
theorem KeptBut.keeps {D : Nat} {w w' : World} (h : KeptBut D w w') : Keeps (fun b => b = D) w w' :=
  ⟨h.size, fun k o hk _ hne => by rw [h.2.2.2.2 k (Array.getElem?_eq_some_iff.1 hk).1 hne]; exact hk⟩

theorem plain_block {w : World} {b : Nat} {v : Value} (hc : w.cell? ⟨b, 0, none⟩ = some v) : ∃ cs t fr, w.heap[b]? = some (.cells cs t fr) ∧ cs.size ≠ 0 := by
  unfold World.cell? at hc
  split at hc
  · rename_i c t f h
    exact ⟨c, t, f, h, fun e => by simp [Array.size_eq_zero_iff.1 e] at hc⟩
  · cases hc

theorem part_info : (Try.prog.info? 85).map (fun i => i.size) = some 6 := by kernel_rfl

theorem ptr_other (a b : Nat) (u v : Value) (w : World) (ha : w.cell? ⟨a, 0, none⟩ = some u) (hb : w.cell? ⟨b, 0, none⟩ = some v) (pa : Plain w a) (pb : Plain w b) (hne : a ≠ b) :
    (binOp .eql 71 (.pointer (some ⟨a, 0, none⟩)) (.pointer (some ⟨b, 0, none⟩))).run Try.prog w = .ok (.bool false) w := by
  obtain ⟨ca, ta, fa, ha, na⟩ := plain_block ha
  obtain ⟨cb, tb, fb, hb, nb⟩ := plain_block hb
  have a0 := pa 0
  have b0 := pb 0
  have a1 := pa ca.size
  have b1 := pb cb.size
  obtain ⟨j, hj, hsz⟩ : ∃ j, Try.prog.info? 85 = some j ∧ j.size = 6 := by
    have := part_info
    cases h : Try.prog.info? 85 with
    | none => rw [h] at this; cases this
    | some j => rw [h] at this; exact ⟨j, rfl, by simpa using this⟩
  have hs : (sameAddr ⟨a, 0, none⟩ ⟨b, 0, none⟩).run Try.prog w = .ok false w := by
    simp [sameAddr, hne, a0, b0, a1, b1, noView, viewAt, World.shape?, ha, hb, mayBeOne, stringish]
  have h : ∀ d : Nat, (Op.equalIn (d + 1) 71 (.pointer (some ⟨a, 0, none⟩)) (.pointer (some ⟨b, 0, none⟩))).run Try.prog w = .ok false w := fun d => by
    simp [Op.equalIn, run_underlying Try.underlying71, sizeOf, typeInfo, hj, hsz, hs]
  simp only [binOp]
  simp [Op.equal, Op.maxDepth, h 9999]

theorem ptr_same (a : Nat) (w : World) : (binOp .eql 71 (.pointer (some ⟨a, 0, none⟩)) (.pointer (some ⟨a, 0, none⟩))).run Try.prog w = .ok (.bool true) w := by
  obtain ⟨j, hj, _⟩ : ∃ j, Try.prog.info? 85 = some j ∧ j.size = 6 := by
    have := part_info
    cases h : Try.prog.info? 85 with
    | none => rw [h] at this; cases this
    | some j => rw [h] at this; exact ⟨j, rfl, by simpa using this⟩
  exact run_eql_ptr_same w _ Try.underlying71 hj

set_option maxRecDepth 100000 in
/-- The roots are compared. -/
theorem root_eq (p q : Option Addr) (xs ys : List Int) (S S' : Nat → Prop) (w : World) (h1 : TreeAt S w (.pointer p) xs) (h2 : TreeAt S' w (.pointer q) ys) :
    ∀ n, (binOp .eql 71 (.pointer p) (.pointer q)).run Try.prog (w.drewN n) = .ok (.bool (decide (p = q))) (w.drewN n) := by
  intro n
  rcases h1 with ⟨h1, _⟩ | ⟨a, ha, h1, hp⟩
  · injection h1 with h1
    subst h1
    rcases h2 with ⟨h2, _⟩ | ⟨b, hb, h2, hq⟩
    · injection h2 with h2
      subst h2
      kernel_rfl
    · simp only [at_, Value.pointer.injEq] at h2
      subst h2
      kernel_rfl
  · simp only [at_, Value.pointer.injEq] at h1
    subst h1
    rcases h2 with ⟨h2, _⟩ | ⟨b, hb, h2, hq⟩
    · injection h2 with h2
      subst h2
      kernel_rfl
    · simp only [at_, Value.pointer.injEq] at h2
      subst h2
      obtain ⟨_, _, _, _, ca⟩ := hp.cells
      obtain ⟨_, _, _, _, cb⟩ := hq.cells
      by_cases he : a = b
      · subst he
        rw [decide_eq_true rfl]
        exact ptr_same a _
      · rw [decide_eq_false (fun e => he (by injection e with e; injection e))]
        exact ptr_other a b _ _ (w.drewN n) ca.1 cb.1 ca.2.2.2.2.2.2 cb.2.2.2.2.2.2 he

set_option maxRecDepth 100000 in
theorem size_neq (a b c d : Int) (w : World) : (binOp .neq 76 (.agg #[.int .i64 a, .int .i64 b]) (.agg #[.int .i64 c, .int .i64 d])).run Try.prog w = .ok (.bool (!(a == c && b == d))) w := by
  have u3 := Try.underlying3
  have a3 := Try.isAgg3
  have z3 := Try.sizeOf3
  have hS : Try.prog.underlying 76 = some (.struct (Try.prog.fieldsOf 76)) := by kernel_rfl
  have hp : Try.prog.stoodInHeld 76 = false := by kernel_rfl
  rw [run_neq_struct, show (10000 : Nat) = 9999 + 1 from rfl, run_equalIn_agg w 9999 76 _ _ hS hp]
  simp only [Program.fieldsOf, Try.underlying76]
  go_simp
  by_cases h1 : a = c <;> by_cases h2 : b = d <;> simp [h1, h2]
theorem size_guard : Try.prog.eqGuardType Try.prog.depth 76 = false := by kernel_rfl

end Rope
end Go.Proofs.Ythjagnnbhpfpoaa
