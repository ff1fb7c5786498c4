import Derived.Test.YteckbpmliahhhaaMTrG0
namespace Go.Proofs.Yteckbpmliahhhaa
open Go.RowKit
attribute [local go_sem] Oper.semAt_some
namespace Ex
namespace Tr

/-- A number, counted round. -/
def roundI (k : Int) (n : Nat) : Nat := (if k.tmod (n : Int) < 0 then k.tmod (n : Int) + n else k.tmod (n : Int)).toNat
theorem roundI_lt (k : Int) {n : Nat} (hn : 0 < n) : roundI k n < n := by
  have hnI : (0 : Int) < (n : Int) := by omega
  have h1 := Int.tmod_lt_of_pos k hnI
  have h2 := Int.lt_tmod_of_pos k hnI
  unfold roundI
  split <;> omega
theorem nptr_info : (Try.prog.info? 43).map (fun i => (i.zero, i.size, i.bytes)) = some (some (.pointer none), 1, 8) := by kernel_rfl
theorem mk_buf (w : World) (n : Nat) (hn : n ≤ 1048577) : ∃ cur : Array Value, cur.size = 2 * n + 8 ∧ (Instr.makeSlice 29 (.int .i64 (2 * (n : Int) + 8)) (.int .i64 (2 * (n : Int) + 8))).run Try.prog w = .ok (.slice (some ⟨w.heap.size, 0, none⟩) (2 * n + 8) (2 * n + 8)) (w.alloc (.cells cur 43)) := by
  obtain ⟨i0, hi, hz0, hz1, hz2⟩ := info_parts nptr_info
  have h := run_make (P := Try.prog) w 29 43 i0 _ Try.underlying29 hi hz0 .i64 .i64 (2 * (n : Int) + 8) (2 * (n : Int) + 8) (by omega) (by omega) (by rw [hz2]; omega) (by omega)
  have e : (2 * (n : Int) + 8).toNat = 2 * n + 8 := by omega
  rw [e] at h
  exact ⟨_, by rw [size_madeCells, hz1]; omega, h⟩
/-- The blocks below A lie as they lay, and nothing else of the world changed. -/
def KA (A : Nat) (w w' : World) : Prop := w'.os = w.os ∧ w'.tape = w.tape ∧ w'.output = w.output ∧ w.heap.size ≤ w'.heap.size ∧ ∀ k, k < A → w'.heap[k]? = w.heap[k]?
theorem KA.refl (A : Nat) (w : World) : KA A w w := ⟨rfl, rfl, rfl, Nat.le_refl _, fun _ _ => rfl⟩
theorem KA.trans {A : Nat} {u v w : World} (h : KA A u v) (k : KA A v w) : KA A u w := ⟨k.1.trans h.1, k.2.1.trans h.2.1, k.2.2.1.trans h.2.2.1, Nat.le_trans h.2.2.2.1 k.2.2.2.1, fun d hd => (k.2.2.2.2 d hd).trans (h.2.2.2.2 d hd)⟩
theorem KeptBut.ka {A s : Nat} {w w' : World} (h : KeptBut s w w') (hs : A ≤ s) (hA : A ≤ w.heap.size) : KA A w w' := ⟨h.1, h.2.1, h.2.2.1, h.2.2.2.1, fun k hk => h.2.2.2.2 k (by omega) (by omega)⟩
theorem _root_.Go.Proofs.Yteckbpmliahhhaa.Ex.Kept.ka {A : Nat} {w w' : World} (h : Kept w w') (hA : A ≤ w.heap.size) : KA A w w' := ⟨h.1, h.2.1, h.2.2.1, h.2.2.2.1, fun k hk => h.2.2.2.2 k (by omega)⟩
theorem KA.kept {w0 w w' : World} (h : Kept w0 w) (k : KA w0.heap.size w w') : Kept w0 w' := ⟨k.1.trans h.1, k.2.1.trans h.2.1, k.2.2.1.trans h.2.2.1, Nat.le_trans h.2.2.2.1 k.2.2.2.1, fun d hd => (k.2.2.2.2 d hd).trans (h.2.2.2.2 d hd)⟩
theorem ownsRow_lt {w : World} {base size n : Nat} {e : TypeId} {v : Value} {xs : List Value} (h : w.ownsRow base e size v n xs) : ∀ g, v.ownBlock = some g → base ≤ g ∧ g < w.heap.size := by
  intro g hg
  rcases h.2 with ⟨rfl, _⟩ | ⟨g', cap, cur, rfl, h1, h2, _⟩
  · cases hg
  · injection hg with hg
    subst hg
    exact ⟨h1, (Array.getElem?_eq_some_iff.1 h2).1⟩
theorem BufAt.lt {w : World} {base : Nat} {v : Value} (h : BufAt w base v) : ∀ g, v.ownBlock = some g → base ≤ g ∧ g < w.heap.size := by
  intro g hg
  rcases h with rfl | ⟨g', cur, rfl, h1, _, h2⟩
  · cases hg
  · injection hg with hg
    subst hg
    exact ⟨h1, (Array.getElem?_eq_some_iff.1 h2).1⟩
theorem BufAt.same {w w' : World} {base : Nat} {v : Value} (h : BufAt w base v) (hh : ∀ g, v.ownBlock = some g → w'.heap[g]? = w.heap[g]?) : BufAt w' base v := by
  rcases h with h | ⟨g, cur, rfl, h1, h2, h3⟩
  · exact Or.inl h
  · exact Or.inr ⟨g, cur, rfl, h1, h2, (hh g rfl).trans h3⟩
theorem set5 {w : World} {g : Nat} {y0 y1 y2 y3 y4 : Value} {t : TypeId} (h : w.heap[g]? = some (.cells #[y0, y1, y2, y3, y4] t (0, 0))) (x : Value) : (w.setCell ⟨g, 2, none⟩ x).heap[g]? = some (.cells #[y0, y1, x, y3, y4] t (0, 0)) ∧ (w.setCell ⟨g, 3, none⟩ x).heap[g]? = some (.cells #[y0, y1, y2, x, y4] t (0, 0)) ∧ (w.setCell ⟨g, 4, none⟩ x).heap[g]? = some (.cells #[y0, y1, y2, y3, x] t (0, 0)) := by
  have hl := (Array.getElem?_eq_some_iff.1 h).1
  have he := Option.some.inj ((Array.getElem?_eq_getElem hl).symm.trans h)
  refine ⟨?_, ?_, ?_⟩ <;> simp [World.setCell, Array.getElem_modify, hl, he]
section
variable {base fb s0 s1 : Nat} {V : Nat → Prop} {P Q : List Nat} {N : Nat → Nd} {X : Nat → Rd} {m0 m1 : Nat} {vP vR vB : Value} {w w' : World}
end

end Tr
end Ex
end Go.Proofs.Yteckbpmliahhhaa
namespace Go.Proofs.Yteckbpmliahhhaa
open Go.RowKit
attribute [local go_sem] Oper.semAt_some
namespace Ex
namespace Tr

theorem flatPt_app (l : List Nat) (b : Nat) : flatPt (l ++ [b]) = flatPt l ++ [.pointer (some ⟨b, 0, none⟩)] := by simp [flatPt]
theorem wpl_P {ops : Array Oper} {rest : List Oper} {o : Oper} {a : Act} {Q : Exit → Act → World → Prop} (hgd : o.guard = none) (s x : Operand) (ho : o.op = .call { callee := .builtin .append, args := #[s, x], argTypes := #[29, 29] }) (w : World)
    (base : Nat) (v : Value) (l : List Nat) (m : Nat) (hm : l.length = m) (hs : a.eval s = v) (hown : POwn w base v l) (lb k : Nat) (hx : a.eval x = .slice (some ⟨lb, 0, none⟩) 1 1) (hbx : w.heap[lb]? = some (.cells #[.pointer (some ⟨k, 0, none⟩)] 43 (0, 0))) (hl : l.length ≤ 8388608) (hbase : base ≤ w.heap.size)
    (h : ∀ g cap w', POwn w' base (.slice (some ⟨g, 0, none⟩) (m + 1) cap) (l ++ [k]) → w.grownBy w' v.ownBlock → (v.ownBlock = some g ∨ g = w.heap.size) → g < w'.heap.size → wpList Try.prog ops Q rest (a.put o.dst (.slice (some ⟨g, 0, none⟩) (m + 1) cap)) w') :
    wpList Try.prog ops Q (o :: rest) a w := by
  obtain ⟨i0, hi, hz0, hz1, hz2⟩ := info_parts nptr_info
  subst hm
  refine wpList_append_lies w hgd s x 29 ho base 43 i0 _ 1 8 Try.underlying29 hi hz0 hz1 hz2 rfl (by decide) v l.length (flatPt l) hs hown ⟨lb, 0, none⟩ 1 1 [.pointer (some ⟨k, 0, none⟩)] hx rfl ?_ ?_ (by decide) (by unfold maxLen; omega) (by omega) hbase w.heap.size rfl ?_
  · intro j y hj
    have hj2 : j < 1 := (List.getElem?_eq_some_iff.1 hj).1
    match j, hj2 with
    | 0, _ => rw [← hj]; simp [World.cell?, Addr.add, hbx]
  · intro u hu
    simp only [List.mem_cons, List.not_mem_nil, or_false] at hu
    subst hu
    rfl
  · intro g cap w' h1 h2 h3 h4
    refine h g cap w' ?_ h2 h3 h4
    unfold POwn
    rw [flatPt_app, List.length_append]
    exact h1
end Tr
end Ex
end Go.Proofs.Yteckbpmliahhhaa
namespace Go.Proofs.Yteckbpmliahhhaa
open Go.RowKit
attribute [local go_sem] Oper.semAt_some
namespace Ex
namespace Tr

theorem low_bit (st : Int) : bits .and .i64 st 1 = 0 ∨ bits .and .i64 st 1 = 1 := by
  show IntKind.i64.wrap ((BitVec.ofInt 64 st &&& BitVec.ofInt 64 1).toNat : Int) = 0 ∨ IntKind.i64.wrap ((BitVec.ofInt 64 st &&& BitVec.ofInt 64 1).toNat : Int) = 1
  rw [BitVec.toNat_and, show (BitVec.ofInt 64 1).toNat = 1 by decide, Nat.and_one_is_mod]
  rcases Nat.mod_two_eq_zero_or_one (BitVec.ofInt 64 st).toNat with h | h <;> rw [h]
  · exact Or.inl (by rw [IntKind.wrap_i64]; rfl)
  · exact Or.inr (by rw [IntKind.wrap_i64]; rfl)
section
variable {base fb s0 s1 : Nat} {V : Nat → Prop} {P Q : List Nat} {N : Nat → Nd} {X : Nat → Rd} {m0 m1 : Nat} {vP vR vB : Value} {w w' : World}
/-- What a forest's blocks are below. -/
def Under (fb : Nat) (V : Nat → Prop) (vP vR vB : Value) (hw : Nat) : Prop := fb < hw ∧ (∀ k, V k → k < hw) ∧ (∀ g, vP.ownBlock = some g → g < hw) ∧ (∀ g, vR.ownBlock = some g → g < hw) ∧ ∀ g, vB.ownBlock = some g → g < hw
end
end Tr
end Ex
end Go.Proofs.Yteckbpmliahhhaa
