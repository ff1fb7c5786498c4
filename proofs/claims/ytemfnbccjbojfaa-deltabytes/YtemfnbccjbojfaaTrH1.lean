import Derived.Test.YtemfnbccjbojfaaTrH0
namespace Go.Proofs.Ytemfnbccjbojfaa
open Go.RowKit
attribute [local go_sem] Oper.semAt_some
namespace Ex
namespace Tr

/-- A number, counted round. -/
def roundI (k : Int) (n : Nat) : Nat := (if k.tmod (n : Int) < 0 then k.tmod (n : Int) + n else k.tmod (n : Int)).toNat
theorem roundI_lt (k : Int) {n : Nat} (hn : 0 < n) : roundI k n < n := by
  have hnI : (0 : Int) < (n : Int) := by omega
  have h1 := Int.tmod_lt_of_pos k hnI
  have h2 := Int.lt_tmod_of_pos k hnI
  unfold roundI
  split <;> omega
theorem nptr_info : (Try.prog.info? 48).map (fun i => (i.zero, i.size, i.bytes)) = some (some (.pointer none), 1, 8) := by kernel_rfl
theorem mk_buf (w : World) (n : Nat) (hn : n ≤ 1048577) : ∃ cur : Array Value, cur.size = 2 * n + 8 ∧ (Instr.makeSlice 44 (.int .i64 (2 * (n : Int) + 8)) (.int .i64 (2 * (n : Int) + 8))).run Try.prog w = .ok (.slice (some ⟨w.heap.size, 0, none⟩) (2 * n + 8) (2 * n + 8)) (w.alloc (.cells cur 48)) := by
  obtain ⟨i0, hi, hz0, hz1, hz2⟩ := info_parts nptr_info
  have h := run_make (P := Try.prog) w 44 48 i0 _ Try.underlying44 hi hz0 .i64 .i64 (2 * (n : Int) + 8) (2 * (n : Int) + 8) (by omega) (by omega) (by rw [hz2]; omega) (by omega)
  have e : (2 * (n : Int) + 8).toNat = 2 * n + 8 := by omega
  rw [e] at h
  exact ⟨_, by rw [size_madeCells, hz1]; omega, h⟩
/-- The blocks below A lie as they lay, and nothing else of the world changed. -/
def KA (A : Nat) (w w' : World) : Prop := w'.os = w.os ∧ w'.tape = w.tape ∧ w'.output = w.output ∧ w.heap.size ≤ w'.heap.size ∧ ∀ k, k < A → w'.heap[k]? = w.heap[k]?
theorem KA.refl (A : Nat) (w : World) : KA A w w := ⟨rfl, rfl, rfl, Nat.le_refl _, fun _ _ => rfl⟩
theorem KA.trans {A : Nat} {u v w : World} (h : KA A u v) (k : KA A v w) : KA A u w := ⟨k.1.trans h.1, k.2.1.trans h.2.1, k.2.2.1.trans h.2.2.1, Nat.le_trans h.2.2.2.1 k.2.2.2.1, fun d hd => (k.2.2.2.2 d hd).trans (h.2.2.2.2 d hd)⟩
theorem KeptBut.ka {A s : Nat} {w w' : World} (h : KeptBut s w w') (hs : A ≤ s) (hA : A ≤ w.heap.size) : KA A w w' := ⟨h.1, h.2.1, h.2.2.1, h.2.2.2.1, fun k hk => h.2.2.2.2 k (by omega) (by omega)⟩
theorem _root_.Go.Proofs.Ytemfnbccjbojfaa.Ex.Kept.ka {A : Nat} {w w' : World} (h : Kept w w') (hA : A ≤ w.heap.size) : KA A w w' := ⟨h.1, h.2.1, h.2.2.1, h.2.2.2.1, fun k hk => h.2.2.2.2 k (by omega)⟩
theorem KA.kept {w0 w w' : World} (h : Kept w0 w) (k : KA w0.heap.size w w') : Kept w0 w' := ⟨k.1.trans h.1, k.2.1.trans h.2.1, k.2.2.1.trans h.2.2.1, Nat.le_trans h.2.2.2.1 k.2.2.2.1, fun d hd => (k.2.2.2.2 d hd).trans (h.2.2.2.2 d hd)⟩
theorem ownsRow_lt {w : World} {base size n : Nat} {e : TypeId} {v : Value} {xs : List Value} (h : w.ownsRow base e size v n xs) : ∀ g, v.ownBlock = some g → base ≤ g ∧ g < w.heap.size := by
  intro g hg
  rcases h.2 with ⟨rfl, _⟩ | ⟨g', cap, cur, rfl, h1, h2, _⟩
  · cases hg
  · injection hg with hg
    subst hg
    exact ⟨h1, (Array.getElem?_eq_some_iff.1 h2).1⟩
theorem BufAt.lt {w : World} {base : Nat} {v : Value} (h : BufAt w base v) : ∀ g, v.ownBlock = some g → base ≤ g ∧ g < w.heap.size := by
  intro g hg
  rcases h with rfl | ⟨g', cur, rfl, h1, _, h2⟩
  · cases hg
  · injection hg with hg
    subst hg
    exact ⟨h1, (Array.getElem?_eq_some_iff.1 h2).1⟩
theorem BufAt.same {w w' : World} {base : Nat} {v : Value} (h : BufAt w base v) (hh : ∀ g, v.ownBlock = some g → w'.heap[g]? = w.heap[g]?) : BufAt w' base v := by
  rcases h with h | ⟨g, cur, rfl, h1, h2, h3⟩
  · exact Or.inl h
  · exact Or.inr ⟨g, cur, rfl, h1, h2, (hh g rfl).trans h3⟩
theorem set5 {w : World} {g : Nat} {y0 y1 y2 y3 y4 : Value} {t : TypeId} (h : w.heap[g]? = some (.cells #[y0, y1, y2, y3, y4] t (0, 0))) (x : Value) : (w.setCell ⟨g, 2, none⟩ x).heap[g]? = some (.cells #[y0, y1, x, y3, y4] t (0, 0)) ∧ (w.setCell ⟨g, 3, none⟩ x).heap[g]? = some (.cells #[y0, y1, y2, x, y4] t (0, 0)) ∧ (w.setCell ⟨g, 4, none⟩ x).heap[g]? = some (.cells #[y0, y1, y2, y3, x] t (0, 0)) := by
  have hl := (Array.getElem?_eq_some_iff.1 h).1
  have he := Option.some.inj ((Array.getElem?_eq_getElem hl).symm.trans h)
  refine ⟨?_, ?_, ?_⟩ <;> simp [World.setCell, Array.getElem_modify, hl, he]
section
variable {base fb s0 s1 : Nat} {V : Nat → Prop} {P Q : List Nat} {N : Nat → Nd} {X : Nat → Rd} {m0 m1 : Nat} {vP vR vB : Value} {w w' : World}
end

end Tr
end Ex
end Go.Proofs.Ytemfnbccjbojfaa
