import Derived.Test.YthpampfbmpdmoaaTrH4
namespace Go.Proofs.Ythpampfbmpdmoaa
open Go.RowKit
attribute [local go_sem] Oper.semAt_some
namespace Ex
namespace Tr

section
variable {base fb s0 s1 : Nat} {V : Nat → Prop} {P Q : List Nat} {N : Nat → Nd} {X : Nat → Rd} {m0 m1 : Nat} {vP vR vB : Value} {w w' : World}
/-- What lies behind a forest's blocks may change. -/
theorem FoM.below (h : FoM base fb s0 s1 V P Q N X m0 m1 vP vR vB w) {hw : Nat} (hU : Under fb V vP vR vB hw) (hb : base ≤ hw) (hk : KB hw w w') : FoM base fb s0 s1 V P Q N X m0 m1 vP vR vB w' := by
  obtain ⟨h1, h2, h3, h4, h5, h6, h7, h8, h9, hV, hN, hX⟩ := h
  obtain ⟨u1, u2, u3, u4, u5⟩ := hU
  have hx : KX V w w' := ⟨hk.1, fun k hk' => hk.2 k (u2 k hk')⟩
  refine ⟨(hk.2 fb u1).trans h1, (hk.2 s0 (by omega)).trans h2, (hk.2 s1 (by omega)).trans h3, owns_same h4 (fun g hg => hk.2 g (u3 g hg)), owns_same h5 (fun g hg => hk.2 g (u4 g hg)), h6.same (fun g hg => hk.2 g (u5 g hg)), ?_, h8, h9, fun k hk' => ?_, fun b hb => (hN b hb).kx hx, fun d hd => (hX d hd).kx hx⟩
  · have := hk.1
    omega
  · obtain ⟨a1, a2, a3⟩ := hV k hk'
    exact ⟨a1, Nat.lt_of_lt_of_le a2 hk.1, a3⟩
/-- The room for children is written. -/
theorem FoM.setBuf {g cap : Nat} (h : FoM base fb s0 s1 V P Q N X m0 m1 vP vR (.slice (some ⟨g, 0, none⟩) cap cap) w) (i : Nat) (v : Value) : FoM base fb s0 s1 V P Q N X m0 m1 vP vR (.slice (some ⟨g, 0, none⟩) cap cap) (w.setCell ⟨g, i, none⟩ v) := by
  obtain ⟨h1, h2, h3, h4, h5, h6, h7, h8, h9, hV, hN, hX⟩ := h
  have hgl := h6.lt g rfl
  have hne : ∀ k, k ≠ g → (w.setCell ⟨g, i, none⟩ v).heap[k]? = w.heap[k]? := fun k hk => Below.heap_setCell _ _ _ _ hk
  have hsz : (w.setCell ⟨g, i, none⟩ v).heap.size = w.heap.size := by simp [World.setCell]
  have hx : KX V w (w.setCell ⟨g, i, none⟩ v) := ⟨by rw [hsz]; exact Nat.le_refl _, fun k hk' => hne k (fun e => (hV k hk').2.2.2.2 (by rw [e]; rfl))⟩
  refine ⟨(hne fb (by omega)).trans h1, (hne s0 (by omega)).trans h2, (hne s1 (by omega)).trans h3, owns_same h4 (fun d hd => hne d (fun e => (h8 d hd).2 (by rw [e]; rfl))), owns_same h5 (fun d hd => hne d (fun e => h9 d hd (by rw [e]; rfl))), ?_, by rw [hsz]; exact h7, h8, h9, fun k hk => by rw [hsz]; exact hV k hk, fun b hb => (hN b hb).kx hx, fun d hd => (hX d hd).kx hx⟩
  rcases h6 with h6 | ⟨g', cur, e, q1, q2, q3⟩
  · cases h6
  · injection e with e1 e2 e3
    injection e1 with e1
    injection e1 with e1
    subst e1
    have he := Option.some.inj ((Array.getElem?_eq_getElem hgl.2).symm.trans q3)
    refine Or.inr ⟨g, cur.set! i v, by simp [e2], q1, by simpa using q2, ?_⟩
    simp [World.setCell, Array.getElem_modify, hgl.2, he]
end
/-- Pointers at the front of a block. -/
def BufHas (w : World) (g : Nat) (l : List Nat) : Prop := ∀ (i b : Nat), l[i]? = some b → w.cell? ⟨g, i, none⟩ = some (.pointer (some ⟨b, 0, none⟩))
theorem BufHas.same {w w' : World} {g : Nat} {l : List Nat} (h : BufHas w g l) (hh : w'.heap[g]? = w.heap[g]?) : BufHas w' g l := fun i b hb => (World.cell?_of_block (w := w) (a := ⟨g, i, none⟩) hh).trans (h i b hb)
theorem buf_cell {w : World} {base g cap i : Nat} (h : BufAt w base (.slice (some ⟨g, 0, none⟩) cap cap)) (hi : i < cap) : ∃ cur : Array Value, cur.size = cap ∧ w.heap[g]? = some (.cells cur 29 (0, 0)) ∧ w.frozen? ⟨g, i, none⟩ = false ∧ ∃ u, w.cell? ⟨g, i, none⟩ = some u := by
  rcases h with h | ⟨g', cur, e, q1, q2, q3⟩
  · cases h
  · injection e with e1 e2 e3
    injection e1 with e1
    injection e1 with e1
    subst e1
    refine ⟨cur, e2.symm, q3, by simp [World.frozen?, q3], ?_⟩
    exact ⟨cur[i]'(by omega), by simp only [World.cell?, q3]; simp [show i < cur.size by omega]⟩
theorem BufHas.put {w : World} {g b : Nat} {l : List Nat} (h : BufHas w g l) {cur : Array Value} {t : TypeId} (hc : w.heap[g]? = some (.cells cur t (0, 0))) (hl : l.length < cur.size) : BufHas (w.setCell ⟨g, l.length, none⟩ (.pointer (some ⟨b, 0, none⟩))) g (l ++ [b]) := by
  have hgl := (Array.getElem?_eq_some_iff.1 hc).1
  have he := Option.some.inj ((Array.getElem?_eq_getElem hgl).symm.trans hc)
  have hn : (w.setCell ⟨g, l.length, none⟩ (.pointer (some ⟨b, 0, none⟩))).heap[g]? = some (.cells (cur.set! l.length (.pointer (some ⟨b, 0, none⟩))) t (0, 0)) := by simp [World.setCell, Array.getElem_modify, hgl, he]
  intro i c hi
  by_cases hlt : i < l.length
  · rw [List.getElem?_append_left hlt] at hi
    have h9 := h i c hi
    simp only [World.cell?, hc] at h9
    simp only [World.cell?, hn]
    rw [← h9, Array.set!_eq_setIfInBounds, Array.getElem?_setIfInBounds_ne (by omega)]
  · have e : i = l.length := by
      have := (List.getElem?_eq_some_iff.1 hi).1
      simp at this
      omega
    subst e
    have ec : c = b := by simpa using hi.symm
    subst ec
    simp only [World.cell?, hn]
    rw [Array.set!_eq_setIfInBounds, Array.getElem?_setIfInBounds_self_of_lt hl]
    rfl
/-- A list's cell. -/
theorem POwn.cell {w : World} {base : Nat} {v : Value} {P : List Nat} (h : POwn w base v P) {i b : Nat} (hi : P[i]? = some b) : ∃ g cap, v = .slice (some ⟨g, 0, none⟩) P.length cap ∧ P.length ≤ cap ∧ w.cell? ⟨g, i, none⟩ = some (.pointer (some ⟨b, 0, none⟩)) := by
  rcases h.2 with ⟨rfl, h0⟩ | ⟨g, cap, cur, rfl, hb, hg, hc, _, _, hx⟩
  · have := (List.getElem?_eq_some_iff.1 hi).1
    omega
  · exact ⟨g, cap, rfl, hc, row_cells hg hx _ _ (flatPt_at hi)⟩
theorem QOwn.cell {w : World} {base : Nat} {v : Value} {P : List Nat} (h : QOwn w base v P) {i b : Nat} (hi : P[i]? = some b) : ∃ g cap, v = .slice (some ⟨g, 0, none⟩) P.length cap ∧ P.length ≤ cap ∧ w.cell? ⟨g, i, none⟩ = some (.pointer (some ⟨b, 0, none⟩)) := by
  rcases h.2 with ⟨rfl, h0⟩ | ⟨g, cap, cur, rfl, hb, hg, hc, _, _, hx⟩
  · have := (List.getElem?_eq_some_iff.1 hi).1
    omega
  · exact ⟨g, cap, rfl, hc, row_cells hg hx _ _ (flatPt_at hi)⟩

theorem POwn.at' {w : World} {base g n c : Nat} {P : List Nat} (h : POwn w base (.slice (some ⟨g, 0, none⟩) n c) P) {i b : Nat} (hi : P[i]? = some b) : w.cell? ⟨g, i, none⟩ = some (.pointer (some ⟨b, 0, none⟩)) := by
  obtain ⟨g', cap, e, _, h2⟩ := h.cell hi
  injection e with e1
  injection e1 with e1
  injection e1 with e1
  subst e1
  exact h2
theorem QOwn.at' {w : World} {base g n c : Nat} {P : List Nat} (h : QOwn w base (.slice (some ⟨g, 0, none⟩) n c) P) {i b : Nat} (hi : P[i]? = some b) : w.cell? ⟨g, i, none⟩ = some (.pointer (some ⟨b, 0, none⟩)) := by
  obtain ⟨g', cap, e, _, h2⟩ := h.cell hi
  injection e with e1
  injection e1 with e1
  injection e1 with e1
  subst e1
  exact h2
theorem QOwn.form {w : World} {base : Nat} {v : Value} {P : List Nat} (h : QOwn w base v P) : ∃ a c, v = .slice a P.length c := by
  rcases h.2 with ⟨rfl, h0⟩ | ⟨g, cap, cur, rfl, _⟩
  · exact ⟨none, 0, by rw [h0]⟩
  · exact ⟨_, _, rfl⟩

/-- What Make gives. -/
def MkGave (N : Nat → Nd) (s m : Nat) (kd n : Int) (ks : List Nat) (pv : Value) (w w' : World) : Prop :=
  (mkErr N s kd n ks ≠ 0 ∧ pv = .pointer none ∧ w' = w) ∨ (mkErr N s kd n ks = 0 ∧ ∃ b, pv = .pointer (some ⟨b, 0, none⟩) ∧ w.heap.size ≤ b ∧ KeptBut s w w' ∧ StoreAt w' s (m + 1) ∧ NodeAt w'.heap.size w' b (makeN N s m kd n ks) ∧ RowLow w.heap.size w' b)
theorem make_any (N : Nat → Nd) (B s m : Nat) (kd n : Int) (ks : List Nat) (v : Value) (w : World) (hs : StoreAt w s m) (hv : PtrsAt w v ks) (hN : ∀ b ∈ ks, NodeAt B w b (N b)) (hB : B ≤ w.heap.size) (hok : ∀ b ∈ ks, NdOk (N b)) (hst : ∀ b ∈ ks, ∃ k, StoreAt w (N b).st k) (hm : m ≤ 4611686018427387904) :
    Calls Try.prog 39 #[.pointer (some ⟨s, 0, none⟩), .int .i64 kd, .int .i64 n, v] w fun e w' => ∃ pv, e = .returned (.tuple #[pv, .int .i64 (mkErr N s kd n ks)]) ∧ MkGave N s m kd n ks pv w w' := by
  by_cases he : mkErr N s kd n ks = 0
  · have h0 := he
    unfold mkErr at h0
    have hmay : mayP kd n = true := by
      cases h : mayP kd n
      · rw [h] at h0; simp at h0
      · rfl
    have hown : ownP N s ks = true := by
      cases h : ownP N s ks
      · rw [h, hmay] at h0; simp at h0
      · rfl
    have hz : 1 + sizeS N ks ≤ 4194304 := by
      rw [hmay, hown] at h0
      simp at h0
      omega
    refine (make_okL N B s m kd n ks v w hs hv hN hB hok hm hmay hown hz).mono ?_
    rintro e w' ⟨b, rfl, h1, h2, h3, h4, h5⟩
    exact ⟨_, by rw [he], Or.inr ⟨he, b, rfl, h1, h2, h3, h4, h5⟩⟩
  · refine (make_bad N B s m kd n ks v w hs hv hN hok hst he).mono ?_
    rintro e w' ⟨rfl, rfl⟩
    exact ⟨_, rfl, Or.inl ⟨he, rfl, rfl⟩⟩
def errR (X : Nat → Rd) (st kd n : Int) (ks : List Nat) : Int := if mayP kd n = true then rErr X st ks else 101
/-- What the document's Make gives. -/
def RkGave (X : Nat → Rd) (st kd n : Int) (ks : List Nat) (rv : Value) (w w' : World) : Prop :=
  Kept w w' ∧ ((errR X st kd n ks ≠ 0 ∧ rv = .pointer none) ∨ (errR X st kd n ks = 0 ∧ ∃ d, rv = .pointer (some ⟨d, 0, none⟩) ∧ RAt w.heap.size w'.heap.size w' d (makeR X st kd n ks)))
theorem rmake_any (X : Nat → Rd) (A B : Nat) (st kd n : Int) (ks : List Nat) (v : Value) (w : World) (hv : RKids A B w v ks) (hv0 : ks = [] → v = .slice none 0 0) (hX : ∀ b ∈ ks, RIs w b (X b)) (hz : ∀ b ∈ ks, (X b).size ≤ 4194304) :
    Calls Try.prog 40 #[.int .i64 st, .int .i64 kd, .int .i64 n, v] w fun e w' => ∃ rv, e = .returned (.tuple #[rv, .int .i64 (errR X st kd n ks)]) ∧ RkGave X st kd n ks rv w w' := by
  cases hm : mayP kd n
  · obtain ⟨a, cap, rfl, _⟩ := hv
    have he : errR X st kd n ks = 101 := by unfold errR; rw [hm]; simp
    refine (rmake_kind st kd n _ _ _ w hm).mono ?_
    rintro e w' ⟨rfl, hk⟩
    exact ⟨_, by rw [he], hk, Or.inl ⟨by rw [he]; decide, rfl⟩⟩
  · have he0 : errR X st kd n ks = rErr X st ks := by unfold errR; rw [hm]; simp
    by_cases he : rErr X st ks = 0
    · have h1 : (∀ b ∈ ks, (X b).st = st) ∧ 1 + sizeR X ks ≤ 4194304 := by
        unfold rErr at he
        by_cases h : ks.all (fun b => (X b).st == st) = true
        · rw [if_pos h] at he
          refine ⟨fun b hb => by simpa using List.all_eq_true.1 h b hb, ?_⟩
          by_cases h2 : 4194304 < 1 + sizeR X ks
          · rw [if_pos h2] at he
            simp at he
          · omega
        · rw [if_neg h] at he
          simp at he
      cases hks : ks with
      | nil =>
        subst hks
        rw [hv0 rfl]
        refine (rmake_nil X st kd n w hm).mono ?_
        rintro e w' ⟨b, rfl, _, hk, hr⟩
        exact ⟨_, by rw [he0, he], hk, Or.inr ⟨by rw [he0, he], b, rfl, hr⟩⟩
      | cons q l =>
        rw [← hks]
        refine (rmake_ok X A B st kd n ks v w hv hX hz hm h1.1 h1.2 (by rw [hks]; simp)).mono ?_
        rintro e w' ⟨b, rfl, _, hk, hr⟩
        exact ⟨_, by rw [he0, he], hk, Or.inr ⟨by rw [he0, he], b, rfl, hr⟩⟩
    · refine (rmake_bad X A B st kd n ks v w hv hX hz hm he).mono ?_
      rintro e w' ⟨rfl, hk⟩
      exact ⟨_, by rw [he0], hk, Or.inl ⟨by rw [he0]; exact he, rfl⟩⟩
theorem mkErr_range (N : Nat → Nd) (s : Nat) (kd n : Int) (ks : List Nat) : 0 ≤ mkErr N s kd n ks ∧ mkErr N s kd n ks ≤ 101 := by
  unfold mkErr
  split
  · exact ⟨by decide, by decide⟩
  · split
    · exact ⟨by decide, by decide⟩
    · split <;> exact ⟨by decide, by decide⟩
theorem node_same (w : World) (b : Nat) : (binOp .neq 29 (.pointer (some ⟨b, 0, none⟩)) (.pointer (some ⟨b, 0, none⟩))).run Try.prog w = .ok (.bool false) w := by
  obtain ⟨j, h1, _⟩ := node_info
  exact Lib.run_neq_ptr_same w _ Try.underlying29 h1
theorem BufHas.ptrs {w : World} {g n cap : Nat} {l : List Nat} (h : BufHas w g l) (hn : l.length = n) (hl : n ≤ 1099511627776) : PtrsAt w (.slice (some ⟨g, 0, none⟩) n cap) l := by
  subst hn
  exact ⟨g, 0, cap, rfl, hl, fun i b hb => by rw [Nat.zero_add]; exact h i b hb⟩
theorem QOwn.kids {w : World} {base : Nat} {v : Value} {l : List Nat} (h : QOwn w base v l) (hl : l.length ≤ 4194304) : RKids 0 w.heap.size w v l := by
  rcases h.2 with ⟨rfl, h0⟩ | ⟨g, cap, cur, rfl, hb, hg, hc, _, _, hx⟩
  · have : l = [] := List.length_eq_zero_iff.1 h0
    subst this
    exact ⟨none, 0, rfl, by simp, Or.inl rfl⟩
  · have hgl := (Array.getElem?_eq_some_iff.1 hg).1
    exact ⟨_, cap, rfl, hl, Or.inr ⟨g, rfl, Nat.zero_le _, hgl, hgl, fun i b hib => row_cells hg hx _ _ (flatPt_at hib)⟩⟩

end Tr
end Ex
end Go.Proofs.Ythpampfbmpdmoaa
