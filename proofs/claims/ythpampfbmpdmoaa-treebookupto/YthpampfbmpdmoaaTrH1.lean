import Derived.Test.YthpampfbmpdmoaaTrH0
namespace Go.Proofs.Ythpampfbmpdmoaa
open Go.RowKit
attribute [local go_sem] Oper.semAt_some
namespace Ex
namespace Tr

/-- A number, counted round. -/
def roundI (k : Int) (n : Nat) : Nat := (if k.tmod (n : Int) < 0 then k.tmod (n : Int) + n else k.tmod (n : Int)).toNat
theorem roundI_lt (k : Int) {n : Nat} (hn : 0 < n) : roundI k n < n := by
  have hnI : (0 : Int) < (n : Int) := by omega
  have h1 := Int.tmod_lt_of_pos k hnI
  have h2 := Int.lt_tmod_of_pos k hnI
  unfold roundI
  split <;> omega
set_option linter.unusedSimpArgs false in
set_option maxRecDepth 100000 in
set_option maxHeartbeats 2000000 in
theorem round_n (k : Int) (n : Nat) (hn : 0 < n) (hb : n ≤ 4194304) (w : World) : Calls Try.prog 38 #[.int .i64 k, .int .i64 (n : Int)] w fun e w' => e = .returned (.int .i64 (roundI k n : Int)) ∧ w' = w := by
  have hnI : (0 : Int) < (n : Int) := by omega
  have hbI : (n : Int) ≤ 4194304 := by omega
  have h1 := Int.tmod_lt_of_pos k hnI
  have h2 := Int.lt_tmod_of_pos k hnI
  obtain ⟨r, hr⟩ : ∃ r, roundI k n = r := ⟨_, rfl⟩
  obtain ⟨t, ht⟩ : ∃ t, k.tmod (n : Int) = t := ⟨_, rfl⟩
  have HRT : Hid ((t < 0 → (r : Int) = t + n) ∧ (¬ t < 0 → (r : Int) = t)) := by
    unfold roundI at hr
    rw [ht] at hr h1 h2
    constructor <;> intro h0
    · rw [if_pos h0] at hr
      omega
    · rw [if_neg h0] at hr
      omega
  rw [hr]
  rw [ht] at h1 h2
  clear hr
  have hz : ¬ (n : Int) = 0 := by omega
  have hz1 : ¬ (n : Int) = -1 := by omega
  go_enter Try.func38, Try.ntmps38
  go_upto_region 2 with fail
  clear ht
  by_cases h0 : t < 0
  · have HE := hide1 (HRT.out.1 h0)
    go_wp2_with fail
    go_ret
    refine ⟨?_, rfl⟩
    rw [HE.out]
    rfl
  · have HE := hide1 (HRT.out.2 h0)
    go_wp2_with fail
    go_ret
    refine ⟨?_, rfl⟩
    rw [HE.out]
    rfl

theorem nptr_info : (Try.prog.info? 29).map (fun i => (i.zero, i.size, i.bytes)) = some (some (.pointer none), 1, 8) := by kernel_rfl
theorem mk_buf (w : World) (n : Nat) (hn : n ≤ 1048577) : ∃ cur : Array Value, cur.size = 2 * n + 8 ∧ (Instr.makeSlice 32 (.int .i64 (2 * (n : Int) + 8)) (.int .i64 (2 * (n : Int) + 8))).run Try.prog w = .ok (.slice (some ⟨w.heap.size, 0, none⟩) (2 * n + 8) (2 * n + 8)) (w.alloc (.cells cur 29)) := by
  obtain ⟨i0, hi, hz0, hz1, hz2⟩ := info_parts nptr_info
  have h := run_make (P := Try.prog) w 32 29 i0 _ Try.underlying32 hi hz0 .i64 .i64 (2 * (n : Int) + 8) (2 * (n : Int) + 8) (by omega) (by omega) (by rw [hz2]; omega) (by omega)
  have e : (2 * (n : Int) + 8).toNat = 2 * n + 8 := by omega
  rw [e] at h
  exact ⟨_, by rw [size_madeCells, hz1]; omega, h⟩
/-- The blocks below A lie as they lay, and nothing else of the world changed. -/
def KA (A : Nat) (w w' : World) : Prop := w'.os = w.os ∧ w'.tape = w.tape ∧ w'.output = w.output ∧ w.heap.size ≤ w'.heap.size ∧ ∀ k, k < A → w'.heap[k]? = w.heap[k]?
theorem KA.refl (A : Nat) (w : World) : KA A w w := ⟨rfl, rfl, rfl, Nat.le_refl _, fun _ _ => rfl⟩
theorem KA.trans {A : Nat} {u v w : World} (h : KA A u v) (k : KA A v w) : KA A u w := ⟨k.1.trans h.1, k.2.1.trans h.2.1, k.2.2.1.trans h.2.2.1, Nat.le_trans h.2.2.2.1 k.2.2.2.1, fun d hd => (k.2.2.2.2 d hd).trans (h.2.2.2.2 d hd)⟩
theorem KeptBut.ka {A s : Nat} {w w' : World} (h : KeptBut s w w') (hs : A ≤ s) (hA : A ≤ w.heap.size) : KA A w w' := ⟨h.1, h.2.1, h.2.2.1, h.2.2.2.1, fun k hk => h.2.2.2.2 k (by omega) (by omega)⟩
theorem _root_.Go.Proofs.Ythpampfbmpdmoaa.Ex.Kept.ka {A : Nat} {w w' : World} (h : Kept w w') (hA : A ≤ w.heap.size) : KA A w w' := ⟨h.1, h.2.1, h.2.2.1, h.2.2.2.1, fun k hk => h.2.2.2.2 k (by omega)⟩
theorem KA.kept {w0 w w' : World} (h : Kept w0 w) (k : KA w0.heap.size w w') : Kept w0 w' := ⟨k.1.trans h.1, k.2.1.trans h.2.1, k.2.2.1.trans h.2.2.1, Nat.le_trans h.2.2.2.1 k.2.2.2.1, fun d hd => (k.2.2.2.2 d hd).trans (h.2.2.2.2 d hd)⟩
theorem ownsRow_lt {w : World} {base size n : Nat} {e : TypeId} {v : Value} {xs : List Value} (h : w.ownsRow base e size v n xs) : ∀ g, v.ownBlock = some g → base ≤ g ∧ g < w.heap.size := by
  intro g hg
  rcases h.2 with ⟨rfl, _⟩ | ⟨g', cap, cur, rfl, h1, h2, _⟩
  · cases hg
  · injection hg with hg
    subst hg
    exact ⟨h1, (Array.getElem?_eq_some_iff.1 h2).1⟩
theorem BufAt.lt {w : World} {base : Nat} {v : Value} (h : BufAt w base v) : ∀ g, v.ownBlock = some g → base ≤ g ∧ g < w.heap.size := by
  intro g hg
  rcases h with rfl | ⟨g', cur, rfl, h1, _, h2⟩
  · cases hg
  · injection hg with hg
    subst hg
    exact ⟨h1, (Array.getElem?_eq_some_iff.1 h2).1⟩
theorem BufAt.same {w w' : World} {base : Nat} {v : Value} (h : BufAt w base v) (hh : ∀ g, v.ownBlock = some g → w'.heap[g]? = w.heap[g]?) : BufAt w' base v := by
  rcases h with h | ⟨g, cur, rfl, h1, h2, h3⟩
  · exact Or.inl h
  · exact Or.inr ⟨g, cur, rfl, h1, h2, (hh g rfl).trans h3⟩
theorem set5 {w : World} {g : Nat} {y0 y1 y2 y3 y4 : Value} {t : TypeId} (h : w.heap[g]? = some (.cells #[y0, y1, y2, y3, y4] t (0, 0))) (x : Value) : (w.setCell ⟨g, 2, none⟩ x).heap[g]? = some (.cells #[y0, y1, x, y3, y4] t (0, 0)) ∧ (w.setCell ⟨g, 3, none⟩ x).heap[g]? = some (.cells #[y0, y1, y2, x, y4] t (0, 0)) ∧ (w.setCell ⟨g, 4, none⟩ x).heap[g]? = some (.cells #[y0, y1, y2, y3, x] t (0, 0)) := by
  have hl := (Array.getElem?_eq_some_iff.1 h).1
  have he := Option.some.inj ((Array.getElem?_eq_getElem hl).symm.trans h)
  refine ⟨?_, ?_, ?_⟩ <;> simp [World.setCell, Array.getElem_modify, hl, he]
section
variable {base fb s0 s1 : Nat} {V : Nat → Prop} {P Q : List Nat} {N : Nat → Nd} {X : Nat → Rd} {m0 m1 : Nat} {vP vR vB : Value} {w w' : World}
/-- A forest in a world that has only grown. -/
theorem FoM.keep (h : FoM base fb s0 s1 V P Q N X m0 m1 vP vR vB w) (hk : Kept w w') : FoM base fb s0 s1 V P Q N X m0 m1 vP vR vB w' := by
  obtain ⟨h1, h2, h3, h4, h5, h6, h7, h8, h9, hV, hN, hX⟩ := h
  have hx : KX V w w' := ⟨hk.2.2.2.1, fun k hk' => hk.2.2.2.2 k (hV k hk').2.1⟩
  refine ⟨(hk.2.2.2.2 fb (Array.getElem?_eq_some_iff.1 h1).1).trans h1, h2.keep hk, h3.keep hk, owns_same h4 (fun g hg => hk.2.2.2.2 g (ownsRow_lt h4 g hg).2), owns_same h5 (fun g hg => hk.2.2.2.2 g (ownsRow_lt h5 g hg).2), h6.same (fun g hg => hk.2.2.2.2 g (h6.lt g hg).2), ?_, h8, h9, fun k hk' => ?_, fun b hb => (hN b hb).kx hx, fun d hd => (hX d hd).kx hx⟩
  · have := hk.2.2.2.1
    omega
  · obtain ⟨a1, a2, a3⟩ := hV k hk'
    exact ⟨a1, Nat.lt_of_lt_of_le a2 hk.2.2.2.1, a3⟩
/-- Another room for children. -/
theorem FoM.rebuf (h : FoM base fb s0 s1 V P Q N X m0 m1 vP vR vB w) (hk : Kept w w') {g n : Nat} {cur : Array Value} (hg : w.heap.size ≤ g) (hcur : w'.heap[g]? = some (.cells cur 29 (0, 0))) (hn : cur.size = n) (hb : n ≤ 4194304) :
    FoM base fb s0 s1 V P Q N X m0 m1 vP vR (.slice (some ⟨g, 0, none⟩) n n) (w'.setCell ⟨fb, 4, none⟩ (.slice (some ⟨g, 0, none⟩) n n)) := by
  have hold := h
  have h' := h.keep hk
  obtain ⟨h1, h2, h3, h4, h5, h6, h7, h8, h9, hV, hN, hX⟩ := h'
  have hsb := setCell_but w' fb 4 (.slice (some ⟨g, 0, none⟩) n n)
  have hne : ∀ k, k ≠ fb → (w'.setCell ⟨fb, 4, none⟩ (.slice (some ⟨g, 0, none⟩) n n)).heap[k]? = w'.heap[k]? := fun k hk => Below.heap_setCell _ _ _ _ hk
  have hx : KX V w' (w'.setCell ⟨fb, 4, none⟩ (.slice (some ⟨g, 0, none⟩) n n)) := ⟨hsb.2.2.2.1, fun k hk' => hne k (by have := (hV k hk').1; omega)⟩
  have hgs : g < w'.heap.size := (Array.getElem?_eq_some_iff.1 hcur).1
  have hP0 := ownsRow_lt hold.2.2.2.1
  have hR0 := ownsRow_lt hold.2.2.2.2.1
  have hV0 := hold.2.2.2.2.2.2.2.2.2.1
  have hb0 := hold.2.2.2.2.2.2.1
  refine ⟨(set5 h1 _).2.2, (hne s0 (by omega)).trans h2, (hne s1 (by omega)).trans h3, owns_same h4 (fun d hd => hne d (by have := (ownsRow_lt h4 d hd).1; omega)), owns_same h5 (fun d hd => hne d (by have := (ownsRow_lt h5 d hd).1; omega)), ?_, ?_, fun d hd => ⟨(h8 d hd).1, ?_⟩, fun d hd => ?_, fun k hk' => ?_, fun b hb => (hN b hb).kx hx, fun d hd => (hX d hd).kx hx⟩
  · refine Or.inr ⟨g, cur, by rw [hn], by omega, by omega, (hne g (by omega)).trans hcur⟩
  · have := hsb.2.2.2.1
    omega
  · intro e
    have e : g = d := by simpa [Value.ownBlock] using e
    have := (hP0 d hd).2
    omega
  · intro e
    have e : g = d := by simpa [Value.ownBlock] using e
    have := (hR0 d hd).2
    omega
  · obtain ⟨a1, a2, a3, a4, a5⟩ := hV k hk'
    refine ⟨a1, Nat.lt_of_lt_of_le a2 hsb.2.2.2.1, a3, a4, fun e => ?_⟩
    have e : g = k := by simpa [Value.ownBlock] using e
    have := (hV0 k hk').2.1
    omega
end

set_option linter.unusedSimpArgs false in
set_option maxRecDepth 100000 in
set_option maxHeartbeats 2000000 in
theorem mem_is (base fb s0 s1 : Nat) (V : Nat → Prop) (P Q : List Nat) (N : Nat → Nd) (X : Nat → Rd) (m0 m1 : Nat) (vP vR vB : Value) (n : Nat) (w : World) (hF : FoM base fb s0 s1 V P Q N X m0 m1 vP vR vB w) (hn : 1 ≤ n) (hn2 : n ≤ 1048577) :
    Calls Try.prog 37 #[.pointer (some ⟨fb, 0, none⟩), .int .i64 (n : Int)] w fun e w' => ∃ (g : Nat) (cap : Nat), e = .returned (.slice (some ⟨g, 0, none⟩) n cap) ∧ n ≤ cap ∧ KeptBut fb w w' ∧ FoM base fb s0 s1 V P Q N X m0 m1 vP vR (.slice (some ⟨g, 0, none⟩) cap cap) w' := by
  have hc4 : w.cell? ⟨fb, 4, none⟩ = some vB := by simp [World.cell?, hF.1]
  have hf4 : w.frozen? ⟨fb, 4, none⟩ = false := by simp [World.frozen?, hF.1]
  have hbuf := hF.2.2.2.2.2.1
  have HF := hide1 hF
  have hnI : (n : Int) ≤ 1048577 := by omega
  have hnI1 : 1 ≤ (n : Int) := by omega
  have hfl := (Array.getElem?_eq_some_iff.1 hF.1).1
  obtain ⟨cur, hcs, hmk⟩ := mk_buf w n hn2
  obtain ⟨wA, hwA⟩ : ∃ wA, w.alloc (.cells cur 29) = wA := ⟨_, rfl⟩
  have hkA : Kept w wA := by rw [← hwA]; exact (Kept.refl w).alloc _ _
  have hcA : wA.heap[w.heap.size]? = some (.cells cur 29 (0, 0)) := by rw [← hwA]; exact World.alloc_heap_new w _
  rw [hwA] at hmk
  have hc4A := grown_cell hkA hc4
  have hf4A : wA.frozen? ⟨fb, 4, none⟩ = false := by simp [World.frozen?, hkA.2.2.2.2 fb hfl, hF.1]
  have hflA : fb < wA.heap.size := Nat.lt_of_lt_of_le hfl hkA.size
  have HR := hide1 (HF.out.rebuf hkA (Nat.le_refl _) hcA hcs (by omega))
  have HKA := hide1 hkA
  have HCS := hide1 hcs
  clear hF hkA hcA hwA hcs
  obtain ⟨bn, hbn⟩ : ∃ bn, w.heap.size = bn := ⟨_, rfl⟩
  rw [hbn] at hmk HR
  rcases hbuf with rfl | ⟨g, cb, rfl, hg, hcs, hcur⟩
  · go_enter Try.func37, Try.ntmps37
    go_wp2_with fail
    go_ret
    exact ⟨bn, 2 * n + 8, rfl, by omega, (HKA.out.tbut fb).trans (setCell_but _ _ _ _), HR.out⟩
  · have hcI : (cb.size : Int) ≤ 4194304 := by omega
    by_cases hlt : cb.size < n
    · have hltI : (cb.size : Int) < (n : Int) := by omega
      go_enter Try.func37, Try.ntmps37
      go_wp2_with fail
      go_ret
      exact ⟨bn, 2 * n + 8, rfl, by omega, (HKA.out.tbut fb).trans (setCell_but _ _ _ _), HR.out⟩
    · have hltI : ¬ (cb.size : Int) < (n : Int) := by omega
      have hle : n ≤ cb.size := by omega
      go_enter Try.func37, Try.ntmps37
      go_wp2_with fail
      go_ret
      exact ⟨g, cb.size, rfl, hle, (Kept.refl w).tbut fb, HF.out⟩

end Tr
end Ex
end Go.Proofs.Ythpampfbmpdmoaa
