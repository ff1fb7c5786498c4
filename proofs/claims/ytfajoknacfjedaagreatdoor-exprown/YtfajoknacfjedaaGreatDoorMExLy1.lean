import Derived.Test.YtfajoknacfjedaaGreatDoorMExStB
namespace Go.Proofs.YtfajoknacfjedaaGreatDoor
open Go.RowKit
attribute [local go_sem] Oper.semAt_some
namespace Ex

/-- Takers and forks as cells. -/
def takerC (ts : List (Int × Int × Nat)) : List Value := ts.flatMap fun t => [.int .u8 t.1, .int .u8 t.2.1, .int .i64 (t.2.2 : Int), .slice none 0 0]
def forkC (fs : List (Nat × Nat)) : List Value := fs.flatMap fun f => [.int .i64 (f.1 : Int), .int .i64 (f.2 : Int)]
theorem takerC_snoc (l : List (Int × Int × Nat)) (t : Int × Int × Nat) : takerC (l ++ [t]) = takerC l ++ [.int .u8 t.1, .int .u8 t.2.1, .int .i64 (t.2.2 : Int), .slice none 0 0] := by
  unfold takerC; rw [List.flatMap_append]; rfl
theorem forkC_snoc (l : List (Nat × Nat)) (t : Nat × Nat) : forkC (l ++ [t]) = forkC l ++ [.int .i64 (t.1 : Int), .int .i64 (t.2 : Int)] := by
  unfold forkC; rw [List.flatMap_append]; rfl
/-- A net that is laid; its rows are none of the blocks X. -/
def NetL (X : Nat → Prop) (w : World) (nb : Nat) (ts : List (Int × Int × Nat)) (fs : List (Nat × Nat)) : Prop :=
  ∃ f0 vt vf, w.heap[nb]? = some (.cells #[f0, vt, vf] 92 (0, 0)) ∧ w.ownsRow 0 116 4 vt ts.length (takerC ts) ∧ w.ownsRow 0 126 2 vf fs.length (forkC fs) ∧
    (∀ g, vt.ownBlock = some g → ¬ X g ∧ g ≠ nb) ∧ ∀ g, vf.ownBlock = some g → ¬ X g ∧ g ≠ nb ∧ vt.ownBlock ≠ some g
/-- The blocks X are as they were. -/
def XKept (X : Nat → Prop) (w w' : World) : Prop := w'.os = w.os ∧ w'.tape = w.tape ∧ w'.output = w.output ∧ w.heap.size ≤ w'.heap.size ∧ ∀ k, X k → w'.heap[k]? = w.heap[k]?
theorem XKept.trans {X : Nat → Prop} {a b c : World} (h : XKept X a b) (k : XKept X b c) : XKept X a c := ⟨k.1.trans h.1, k.2.1.trans h.2.1, k.2.2.1.trans h.2.2.1, Nat.le_trans h.2.2.2.1 k.2.2.2.1, fun d hd => (k.2.2.2.2 d hd).trans (h.2.2.2.2 d hd)⟩
theorem XKept.sub {X Y : Nat → Prop} {a b : World} (h : XKept X a b) (hs : ∀ d, Y d → X d) : XKept Y a b := ⟨h.1, h.2.1, h.2.2.1, h.2.2.2.1, fun d hd => h.2.2.2.2 d (hs d hd)⟩
theorem Kept.x {X : Nat → Prop} {a b : World} (h : Kept a b) (hX : ∀ d, X d → d < a.heap.size) : XKept X a b := ⟨h.1, h.2.1, h.2.2.1, h.2.2.2.1, fun d hd => h.2.2.2.2 d (hX d hd)⟩
theorem XKept.cell {X : Nat → Prop} {a b : World} (h : XKept X a b) {d o : Nat} {v : Value} (hd : X d) (hc : a.cell? ⟨d, o, none⟩ = some v) : b.cell? ⟨d, o, none⟩ = some v := (World.cell?_of_block (w := a) (a := ⟨d, o, none⟩) (h.2.2.2.2 d hd)).trans hc
theorem XKept.holds {X : Nat → Prop} {a b : World} (h : XKept X a b) : Holds X a b := fun _ _ _ hd hc => h.cell hd hc
/-- New blocks alone: they are none of the net's. -/
theorem NetL.keep {X : Nat → Prop} {w w' : World} {nb : Nat} {ts : List (Int × Int × Nat)} {fs : List (Nat × Nat)} (h : NetL X w nb ts fs) (hk : Kept w w') : NetL (fun d => X d ∨ (w.heap.size ≤ d ∧ d < w'.heap.size)) w' nb ts fs := by
  obtain ⟨f0, vt, vf, h1, h2, h3, h4, h5⟩ := h
  have hl : nb < w.heap.size := (Array.getElem?_eq_some_iff.1 h1).1
  refine ⟨f0, vt, vf, (hk.2.2.2.2 nb hl).trans h1, owns_kept h2 (fun g hg => hk.2.2.2.2 g (h2.lt g hg).2), owns_kept h3 (fun g hg => hk.2.2.2.2 g (h3.lt g hg).2), fun g hg => ⟨fun e => ?_, (h4 g hg).2⟩, fun g hg => ⟨fun e => ?_, (h5 g hg).2⟩⟩
  · have := (h2.lt g hg).2
    rcases e with e | e
    · exact (h4 g hg).1 e
    · omega
  · have := (h3.lt g hg).2
    rcases e with e | e
    · exact (h5 g hg).1 e
    · omega
theorem NetL.sub {X Y : Nat → Prop} {w : World} {nb : Nat} {ts : List (Int × Int × Nat)} {fs : List (Nat × Nat)} (h : NetL X w nb ts fs) (hs : ∀ d, Y d → X d) : NetL Y w nb ts fs := by
  obtain ⟨f0, vt, vf, h1, h2, h3, h4, h5⟩ := h
  exact ⟨f0, vt, vf, h1, h2, h3, fun g hg => ⟨fun e => (h4 g hg).1 (hs g e), (h4 g hg).2⟩, fun g hg => ⟨fun e => (h5 g hg).1 (hs g e), (h5 g hg).2⟩⟩
theorem fork_info : (Tryz.prog.info? 126).map (fun i => (i.zero, i.size, i.bytes)) = some (some (.agg #[.int .i64 0, .int .i64 0]), 2, 16) := by kernel_rfl
theorem taker_info : (Tryz.prog.info? 116).map (fun i => (i.zero, i.size, i.bytes)) = some (some (.agg #[.int .u8 0, .int .u8 0, .int .i64 0, .slice none 0 0]), 4, 40) := by kernel_rfl
theorem wpl_fork {ops : Array Oper} {rest : List Oper} {o : Oper} {a : Act} {Q : Exit → Act → World → Prop} (hgd : o.guard = none) (s x : Operand)
    (ho : o.op = .call { callee := .builtin .append, args := #[s, x], argTypes := #[90, 90] }) (W : World) (v : Value) (l : List (Nat × Nat)) (n : Nat) (hn : l.length = n) (hs : a.eval s = v) (hown : W.ownsRow 0 126 2 v l.length (forkC l))
    (lb : Nat) (c : Nat × Nat) (hx : a.eval x = .slice (some ⟨lb, 0, none⟩) 1 1) (hbx : W.heap[lb]? = some (.cells #[.int .i64 (c.1 : Int), .int .i64 (c.2 : Int)] 126 (0, 0))) (hl : l.length ≤ 400000)
    (h : ∀ g cap w', w'.ownsRow 0 126 2 (.slice (some ⟨g, 0, none⟩) (n + 1) cap) (n + 1) (forkC (l ++ [c])) → W.grownBy w' v.ownBlock → (v.ownBlock = some g ∨ g = W.heap.size) → wpList Tryz.prog ops Q rest (a.put o.dst (.slice (some ⟨g, 0, none⟩) (n + 1) cap)) w') : wpList Tryz.prog ops Q (o :: rest) a W := by
  obtain ⟨i0, hi, hz0, hz1, hz2⟩ := info_of fork_info
  subst hn
  refine wpList_append_lies W hgd s x 90 ho 0 126 i0 _ 2 16 Tryz.underlying90 hi hz0 hz1 hz2 rfl (by decide) v l.length (forkC l) hs hown ⟨lb, 0, none⟩ 1 1 [.int .i64 (c.1 : Int), .int .i64 (c.2 : Int)] hx rfl ?_ ?_ (by decide) (by unfold maxLen; omega) (by omega) (Nat.zero_le _) W.heap.size rfl ?_
  · intro j y hj
    have hj6 : j < 2 := (List.getElem?_eq_some_iff.1 hj).1
    match j, hj6 with
    | 0, _ => exact (show W.cell? ⟨lb, 0, none⟩ = _ by simp [World.cell?, hbx]).trans hj
    | 1, _ => exact (show W.cell? ⟨lb, 1, none⟩ = _ by simp [World.cell?, hbx]).trans hj
  · intro y hy
    simp only [List.mem_cons, List.not_mem_nil, or_false] at hy
    rcases hy with rfl | rfl <;> rfl
  · intro g cap w' h3 h4 h5 h6
    exact h g cap w' (by rw [forkC_snoc]; exact h3) h4 h5
theorem row_form {w : World} {base size n : Nat} {e : TypeId} {v : Value} {xs : List Value} (h : w.ownsRow base e size v n xs) : ∃ a c, v = .slice a n c := by
  rcases h.2 with ⟨rfl, h0⟩ | ⟨g, cap, cur, rfl, _⟩
  · exact ⟨none, 0, by rw [h0]⟩
  · exact ⟨_, _, rfl⟩
/-- The net's block, whole. -/
theorem net_cells {w : World} {nb : Nat} {f0 vt vf : Value} (h : w.heap[nb]? = some (.cells #[f0, vt, vf] 92 (0, 0))) : (w.cell? ⟨nb, 0, none⟩ = some f0 ∧ w.cell? ⟨nb, 1, none⟩ = some vt ∧ w.cell? ⟨nb, 2, none⟩ = some vf) ∧ w.frozen? ⟨nb, 0, none⟩ = false ∧ w.frozen? ⟨nb, 1, none⟩ = false ∧ w.frozen? ⟨nb, 2, none⟩ = false := by
  refine ⟨⟨?_, ?_, ?_⟩, ?_, ?_, ?_⟩ <;> simp [World.cell?, World.frozen?, h]

theorem net_grown {w w' : World} {o : Obj} {row : Option Nat} {b : Nat} {x : Obj} (hg : (w.alloc o).grownBy w' row) (h : w.heap[b]? = some x) (hb : some b ≠ row) : w'.heap[b]? = some x := by
  have hl : b < w.heap.size := (Array.getElem?_eq_some_iff.1 h).1
  exact (hg.block b (by simp; omega) hb).trans ((heap_alloc_old w o hl).trans h)
theorem net_set {w : World} {nb : Nat} {f0 vt vf v : Value} (h : w.heap[nb]? = some (.cells #[f0, vt, vf] 92 (0, 0))) : (w.setCell ⟨nb, 2, none⟩ v).heap[nb]? = some (.cells #[f0, vt, v] 92 (0, 0)) ∧ (w.setCell ⟨nb, 1, none⟩ v).heap[nb]? = some (.cells #[f0, v, vf] 92 (0, 0)) ∧ (w.setCell ⟨nb, 0, none⟩ v).heap[nb]? = some (.cells #[v, vt, vf] 92 (0, 0)) := by
  have hl : nb < w.heap.size := (Array.getElem?_eq_some_iff.1 h).1
  have he : w.heap[nb] = Obj.cells #[f0, vt, vf] 92 (0, 0) := by rw [Array.getElem?_eq_getElem hl] at h; exact Option.some.inj h
  refine ⟨?_, ?_, ?_⟩ <;> simp [World.setCell, Array.getElem_modify, hl, he]
theorem fork_end {X : Nat → Prop} {w W w9 : World} {nb g9 c9 m : Nat} {f0 vt vf : Value} {ts : List (Int × Int × Nat)} {fs' : List (Nat × Nat)} (hX : ∀ d, X d → d < w.heap.size ∧ d ≠ nb) (hW : Kept w W)
    (h1 : w.heap[nb]? = some (.cells #[f0, vt, vf] 92 (0, 0))) (h2 : w.ownsRow 0 116 4 vt ts.length (takerC ts)) (h4 : ∀ g, vt.ownBlock = some g → ¬ X g ∧ g ≠ nb) (h5 : ∀ g, vf.ownBlock = some g → ¬ X g ∧ g ≠ nb ∧ vt.ownBlock ≠ some g)
    (hg : W.grownBy w9 vf.ownBlock) (ho : w9.ownsRow 0 126 2 (.slice (some ⟨g9, 0, none⟩) m c9) fs'.length (forkC fs')) (hl : vf.ownBlock = some g9 ∨ g9 = W.heap.size) :
    NetL X (w9.setCell ⟨nb, 2, none⟩ (.slice (some ⟨g9, 0, none⟩) m c9)) nb ts fs' ∧ XKept X w (w9.setCell ⟨nb, 2, none⟩ (.slice (some ⟨g9, 0, none⟩) m c9)) := by
  have hnb : nb < w.heap.size := (Array.getElem?_eq_some_iff.1 h1).1
  have hsz := hW.size
  have same : ∀ k, k < w.heap.size → some k ≠ vf.ownBlock → w9.heap[k]? = w.heap[k]? := fun k hk hne => (hg.block k (by omega) hne).trans (hW.2.2.2.2 k hk)
  have h9 : w9.heap[nb]? = some (.cells #[f0, vt, vf] 92 (0, 0)) := (same nb hnb (fun e => (h5 nb e.symm).2.1 rfl)).trans h1
  have hset : ∀ k v, k ≠ nb → (w9.setCell ⟨nb, 2, none⟩ v).heap[k]? = w9.heap[k]? := fun k v hk => Below.heap_setCell _ _ _ _ hk
  have hg9 : ¬ X g9 ∧ g9 ≠ nb ∧ vt.ownBlock ≠ some g9 := by
    rcases hl with e | e
    · exact h5 g9 e
    · refine ⟨fun e2 => by have := (hX g9 e2).1; omega, by omega, fun e2 => by have := (h2.lt g9 e2).2; omega⟩
  refine ⟨⟨f0, vt, _, (net_set h9).1, owns_kept h2 (fun g hgt => (hset g _ (h4 g hgt).2).trans (same g (h2.lt g hgt).2 (fun e => (h5 g e.symm).2.2 hgt))), owns_kept ho (fun g hgf => hset g _ (by simp only [Value.ownBlock, Option.some.injEq] at hgf; rw [← hgf]; exact hg9.2.1)), h4, fun g hgf => ?_⟩, ?_⟩
  · simp only [Value.ownBlock, Option.some.injEq] at hgf
    rw [← hgf]
    exact hg9
  · refine ⟨hg.os.trans hW.1, hg.tape.trans hW.2.1, hg.output.trans hW.2.2.1, by simpa [World.setCell] using Nat.le_trans hsz hg.size, fun k hk => (hset k _ (hX k hk).2).trans (same k (hX k hk).1 (fun e => (h5 k e.symm).1 hk))⟩
set_option linter.unusedSimpArgs false in
set_option maxRecDepth 100000 in
set_option maxHeartbeats 2000000 in
theorem fork_is (X : Nat → Prop) (nb : Nat) (ts : List (Int × Int × Nat)) (fs : List (Nat × Nat)) (x y : Nat) (w : World) (h : NetL X w nb ts fs) (hX : ∀ d, X d → d < w.heap.size ∧ d ≠ nb) (hl : fs.length ≤ 300000) :
    Calls Tryz.prog 79 #[.pointer (some ⟨nb, 0, none⟩), .int .i64 (x : Int), .int .i64 (y : Int)] w fun e w' => e = .returned (.int .i64 ((4097 + fs.length : Nat) : Int)) ∧ NetL X w' nb ts (fs ++ [(x, y)]) ∧ XKept X w w' := by
  have HX := hide1 hX
  obtain ⟨f0, vt, vf, h1, h2, h3, h4, h5⟩ := h
  obtain ⟨⟨c0, c1, c2⟩, z0, z1, z2⟩ := net_cells h1
  obtain ⟨af, cf, rfl⟩ := row_form h3
  have HN1 := hide1 h1
  have HN2 := hide1 h2
  have HN3 := hide1 h3
  have HN4 := hide1 h4
  have HN5 := hide1 h5
  have hnb := World.block_lt_of_cell? w _ c0
  have hlI : (fs.length : Int) ≤ 300000 := by omega
  clear h1 h2 h3 h4 h5 hX
  go_enter Tryz.func79, Tryz.ntmps79
  go_wp2_with (at_builtin; go_must (refine wpl_fork rfl _ _ rfl _ _ fs fs.length rfl (by rfl) (owns_kept HN3.out (fun d hd => heap_alloc_old w _ (HN3.out.lt d hd).2)) w.heap.size (x, y) (by rfl) (heap_alloc_new w _) (by omega) ?_; intro g9 c9 w9 ho9 hg9 hl9; have HO9 := hide1 ho9; have HG9 := hide1 hg9; have HL9 := hide1 hl9; have k0 := net_grown hg9 HN1.out (fun e => (HN5.out nb e.symm).2.1 rfl); have HK0 := hide1 k0; obtain ⟨⟨d0, d1, d2⟩, y0, y1, y2⟩ := net_cells k0; have hnb9 := World.block_lt_of_cell? w9 _ d0; clear ho9 hg9 hl9 k0))
  go_ret
  have hend := fork_end (m := fs.length + 1) (fs' := fs ++ [(x, y)]) HX.out ((Kept.refl w).alloc _ _) HN1.out HN2.out HN4.out HN5.out HG9.out (by rw [List.length_append]; exact HO9.out) HL9.out
  refine ⟨?_, hend⟩
  show Ending.returned (Value.int .i64 (4097 + ((fs.length : Int) + 1) - 1)) = _
  congr 2
  omega

end Ex
end Go.Proofs.YtfajoknacfjedaaGreatDoor
