import Derived.Test.YteckbpmliahhhaaMTrH1
namespace Go.Proofs.Yteckbpmliahhhaa
open Go.RowKit
attribute [local go_sem] Oper.semAt_some
namespace Ex
namespace Tr

end Tr
end Ex
end Go.Proofs.Yteckbpmliahhhaa
namespace Go.Proofs.Yteckbpmliahhhaa
open Go.RowKit
attribute [local go_sem] Oper.semAt_some
namespace Ex
namespace Tr

section
variable {base fb s0 s1 : Nat} {V : Nat → Prop} {P Q : List Nat} {N : Nat → Nd} {X : Nat → Rd} {m0 m1 : Nat} {vP vR vB : Value} {w w' : World}
end
/-- Pointers at the front of a block. -/
def BufHas (w : World) (g : Nat) (l : List Nat) : Prop := ∀ (i b : Nat), l[i]? = some b → w.cell? ⟨g, i, none⟩ = some (.pointer (some ⟨b, 0, none⟩))
theorem BufHas.same {w w' : World} {g : Nat} {l : List Nat} (h : BufHas w g l) (hh : w'.heap[g]? = w.heap[g]?) : BufHas w' g l := fun i b hb => (World.cell?_of_block (w := w) (a := ⟨g, i, none⟩) hh).trans (h i b hb)
theorem buf_cell {w : World} {base g cap i : Nat} (h : BufAt w base (.slice (some ⟨g, 0, none⟩) cap cap)) (hi : i < cap) : ∃ cur : Array Value, cur.size = cap ∧ w.heap[g]? = some (.cells cur 43 (0, 0)) ∧ w.frozen? ⟨g, i, none⟩ = false ∧ ∃ u, w.cell? ⟨g, i, none⟩ = some u := by
  rcases h with h | ⟨g', cur, e, q1, q2, q3⟩
  · cases h
  · injection e with e1 e2 e3
    injection e1 with e1
    injection e1 with e1
    subst e1
    refine ⟨cur, e2.symm, q3, by simp [World.frozen?, q3], ?_⟩
    exact ⟨cur[i]'(by omega), by simp only [World.cell?, q3]; simp [show i < cur.size by omega]⟩
theorem BufHas.put {w : World} {g b : Nat} {l : List Nat} (h : BufHas w g l) {cur : Array Value} {t : TypeId} (hc : w.heap[g]? = some (.cells cur t (0, 0))) (hl : l.length < cur.size) : BufHas (w.setCell ⟨g, l.length, none⟩ (.pointer (some ⟨b, 0, none⟩))) g (l ++ [b]) := by
  have hgl := (Array.getElem?_eq_some_iff.1 hc).1
  have he := Option.some.inj ((Array.getElem?_eq_getElem hgl).symm.trans hc)
  have hn : (w.setCell ⟨g, l.length, none⟩ (.pointer (some ⟨b, 0, none⟩))).heap[g]? = some (.cells (cur.set! l.length (.pointer (some ⟨b, 0, none⟩))) t (0, 0)) := by simp [World.setCell, Array.getElem_modify, hgl, he]
  intro i c hi
  by_cases hlt : i < l.length
  · rw [List.getElem?_append_left hlt] at hi
    have h9 := h i c hi
    simp only [World.cell?, hc] at h9
    simp only [World.cell?, hn]
    rw [← h9, Array.set!_eq_setIfInBounds, Array.getElem?_setIfInBounds_ne (by omega)]
  · have e : i = l.length := by
      have := (List.getElem?_eq_some_iff.1 hi).1
      simp at this
      omega
    subst e
    have ec : c = b := by simpa using hi.symm
    subst ec
    simp only [World.cell?, hn]
    rw [Array.set!_eq_setIfInBounds, Array.getElem?_setIfInBounds_self_of_lt hl]
    rfl
/-- A list's cell. -/
theorem POwn.cell {w : World} {base : Nat} {v : Value} {P : List Nat} (h : POwn w base v P) {i b : Nat} (hi : P[i]? = some b) : ∃ g cap, v = .slice (some ⟨g, 0, none⟩) P.length cap ∧ P.length ≤ cap ∧ w.cell? ⟨g, i, none⟩ = some (.pointer (some ⟨b, 0, none⟩)) := by
  rcases h.2 with ⟨rfl, h0⟩ | ⟨g, cap, cur, rfl, hb, hg, hc, _, _, hx⟩
  · have := (List.getElem?_eq_some_iff.1 hi).1
    omega
  · exact ⟨g, cap, rfl, hc, row_cells hg hx _ _ (flatPt_at hi)⟩
theorem POwn.at' {w : World} {base g n c : Nat} {P : List Nat} (h : POwn w base (.slice (some ⟨g, 0, none⟩) n c) P) {i b : Nat} (hi : P[i]? = some b) : w.cell? ⟨g, i, none⟩ = some (.pointer (some ⟨b, 0, none⟩)) := by
  obtain ⟨g', cap, e, _, h2⟩ := h.cell hi
  injection e with e1
  injection e1 with e1
  injection e1 with e1
  subst e1
  exact h2
/-- What Make gives. -/
def MkGave (N : Nat → Nd) (s m : Nat) (kd n : Int) (ks : List Nat) (pv : Value) (w w' : World) : Prop :=
  (mkErr N s kd n ks ≠ 0 ∧ pv = .pointer none ∧ w' = w) ∨ (mkErr N s kd n ks = 0 ∧ ∃ b, pv = .pointer (some ⟨b, 0, none⟩) ∧ w.heap.size ≤ b ∧ KeptBut s w w' ∧ StoreAt w' s (m + 1) ∧ NodeAt w'.heap.size w' b (makeN N s m kd n ks) ∧ RowLow w.heap.size w' b)
theorem make_any (N : Nat → Nd) (B s m : Nat) (kd n : Int) (ks : List Nat) (v : Value) (w : World) (hs : StoreAt w s m) (hv : PtrsAt w v ks) (hN : ∀ b ∈ ks, NodeAt B w b (N b)) (hB : B ≤ w.heap.size) (hok : ∀ b ∈ ks, NdOk (N b)) (hst : ∀ b ∈ ks, ∃ k, StoreAt w (N b).st k) (hm : m ≤ 4611686018427387904) :
    Calls Try.prog 16 #[.pointer (some ⟨s, 0, none⟩), .int .i64 kd, .int .i64 n, v] w fun e w' => ∃ pv, e = .returned (.tuple #[pv, .int .i64 (mkErr N s kd n ks)]) ∧ MkGave N s m kd n ks pv w w' := by
  by_cases he : mkErr N s kd n ks = 0
  · have h0 := he
    unfold mkErr at h0
    have hmay : mayP kd n = true := by
      cases h : mayP kd n
      · rw [h] at h0; simp at h0
      · rfl
    have hown : ownP N s ks = true := by
      cases h : ownP N s ks
      · rw [h, hmay] at h0; simp at h0
      · rfl
    have hz : 1 + sizeS N ks ≤ 4194304 := by
      rw [hmay, hown] at h0
      simp at h0
      omega
    refine (make_okL N B s m kd n ks v w hs hv hN hB hok hm hmay hown hz).mono ?_
    rintro e w' ⟨b, rfl, h1, h2, h3, h4, h5⟩
    exact ⟨_, by rw [he], Or.inr ⟨he, b, rfl, h1, h2, h3, h4, h5⟩⟩
  · refine (make_bad N B s m kd n ks v w hs hv hN hok hst he).mono ?_
    rintro e w' ⟨rfl, rfl⟩
    exact ⟨_, rfl, Or.inl ⟨he, rfl, rfl⟩⟩
def errR (X : Nat → Rd) (st kd n : Int) (ks : List Nat) : Int := if mayP kd n = true then rErr X st ks else 101
theorem mkErr_range (N : Nat → Nd) (s : Nat) (kd n : Int) (ks : List Nat) : 0 ≤ mkErr N s kd n ks ∧ mkErr N s kd n ks ≤ 101 := by
  unfold mkErr
  split
  · exact ⟨by decide, by decide⟩
  · split
    · exact ⟨by decide, by decide⟩
    · split <;> exact ⟨by decide, by decide⟩
theorem node_same (w : World) (b : Nat) : (binOp .neq 43 (.pointer (some ⟨b, 0, none⟩)) (.pointer (some ⟨b, 0, none⟩))).run Try.prog w = .ok (.bool false) w := by
  obtain ⟨j, h1, _⟩ := node_info
  exact Lib.run_neq_ptr_same w _ Try.underlying43 h1
theorem BufHas.ptrs {w : World} {g n cap : Nat} {l : List Nat} (h : BufHas w g l) (hn : l.length = n) (hl : n ≤ 1099511627776) : PtrsAt w (.slice (some ⟨g, 0, none⟩) n cap) l := by
  subst hn
  exact ⟨g, 0, cap, rfl, hl, fun i b hb => by rw [Nat.zero_add]; exact h i b hb⟩
end Tr
end Ex
end Go.Proofs.Yteckbpmliahhhaa
namespace Go.Proofs.Yteckbpmliahhhaa
open Go.RowKit
attribute [local go_sem] Oper.semAt_some
namespace Ex
namespace Tr

theorem BufHas.front {w : World} {g : Nat} {l r : List Nat} (h : BufHas w g (l ++ r)) : BufHas w g l := fun i b hb => h i b (by rw [List.getElem?_append_left (List.getElem?_eq_some_iff.1 hb).1]; exact hb)
section
variable {base fb s0 s1 : Nat} {V : Nat → Prop} {P Q : List Nat} {N : Nat → Nd} {X : Nat → Rd} {m0 m1 : Nat} {vP vR vB : Value} {w : World}
/-- A store that Make has changed, or not. -/
theorem MkGave.keptBut {s m : Nat} {kd n : Int} {ks : List Nat} {pv : Value} {w' : World} (h : MkGave N s m kd n ks pv w w') : KeptBut s w w' := by
  rcases h with ⟨_, _, rfl⟩ | ⟨_, b, _, _, h, _⟩
  · exact (Kept.refl _).tbut s
  · exact h
end

end Tr
end Ex
end Go.Proofs.Yteckbpmliahhhaa
