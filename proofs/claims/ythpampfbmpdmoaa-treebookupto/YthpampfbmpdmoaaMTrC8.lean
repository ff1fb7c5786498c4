import Derived.Test.YthpampfbmpdmoaaMTrVa
import Derived.Test.YthpampfbmpdmoaaMTrC5
import Derived.Test.YthpampfbmpdmoaaMTrR1
import Derived.Test.YthpampfbmpdmoaaTrH8
namespace Go.Proofs.Ythpampfbmpdmoaa
open Go.RowKit
namespace Ex
namespace Tr

/-- A block of ints. -/
def IntB (w : World) (k : Nat) : Prop := ∃ cur, w.heap[k]? = some (.cells cur 3 (0, 0))
/-- Blocks of ints stay. -/
def IntK (w w' : World) : Prop := w.heap.size ≤ w'.heap.size ∧ ∀ k, IntB w k → w'.heap[k]? = w.heap[k]?
theorem IntB.lt {w : World} {k : Nat} (h : IntB w k) : k < w.heap.size := by
  obtain ⟨_, h⟩ := h
  exact (Array.getElem?_eq_some_iff.1 h).1
theorem IntK.refl (w : World) : IntK w w := ⟨Nat.le_refl _, fun _ _ => rfl⟩
theorem IntK.trans {u v w : World} (h : IntK u v) (k : IntK v w) : IntK u w := by
  refine ⟨Nat.le_trans h.1 k.1, fun d hd => ?_⟩
  have h1 := h.2 d hd
  obtain ⟨cur, hc⟩ := hd
  exact (k.2 d ⟨cur, h1.trans hc⟩).trans h1
theorem kept_intK {w w' : World} (h : Kept w w') : IntK w w' := ⟨h.size, fun k hk => h.2.2.2.2 k hk.lt⟩
theorem PathRd.intK {w w' : World} {pv : Value} {p : List Nat} (h : PathRd w pv p) (hk : IntK w w') : PathRd w' pv p := h.same fun g cur hg => hk.2 g ⟨cur, hg⟩
section
variable {Z Z' : Nat → Prop} {W w w0 w' : World} {C cb d0 : Nat} {wy wy' : List (Nat × Nat × Nat)} {p p' : List Nat} {pv : Value}
theorem RCur.noInt (h : RCur w cb d0 pv) : ¬ IntB w cb := by
  rintro ⟨cur, hc⟩
  unfold RCur at h
  rw [hc] at h
  simp at h
theorem CurZ.int (h : CurZ Z W w C wy) : CurZ (fun k => Z k ∨ IntB w k) W w C wy := by
  obtain ⟨h1, h2, h3, wv, h4, h5, h6⟩ := h
  refine ⟨h1, h2, ?_, wv, h4, h5, fun d hd => ⟨(h6 d hd).1, ?_⟩⟩
  · rintro (h | ⟨cur, hc⟩)
    · exact h3 h
    · unfold CurAt at h4
      rw [hc] at h4
      simp at h4
  · rintro (h | ⟨cur, hc⟩)
    · exact (h6 d hd).2 h
    · rcases h5.2 with ⟨rfl, _⟩ | ⟨g, cap, cu, rfl, _, hg, _⟩
      · simp [Value.ownBlock] at hd
      · have e : g = d := by injection hd
        subst e
        rw [hc] at hg
        simp at hg
theorem CurZ.less (h : CurZ Z W w C wy) (hz : ∀ k, Z' k → Z k) : CurZ Z' W w C wy := by
  obtain ⟨h1, h2, h3, wv, h4, h5, h6⟩ := h
  exact ⟨h1, h2, fun h => h3 (hz _ h), wv, h4, h5, fun d hd => ⟨(h6 d hd).1, fun h => (h6 d hd).2 (hz _ h)⟩⟩
theorem CurZ.but (h : CurZ Z W w C wy) {b : Nat} (hz : Z b) (hb : W.heap.size ≤ b) (hk : KeptBut b w w') : CurZ Z W w' C wy := by
  obtain ⟨h1, h2, h3, wv, h4, h5, h6⟩ := h
  refine ⟨KeptBut.new h1 hk hb, h2, h3, wv, (hk.2.2.2.2 C h4.lt (fun e => h3 (e ▸ hz))).trans h4, owns_same h5 (fun d hd => hk.2.2.2.2 d (World.ownsRow.lt h5 d hd).2 (fun e => (h6 d hd).2 (e ▸ hz))), h6⟩
/-- Both cursors of a tree while they are moved: the program's in C stands on wy, the document's in cb on the path p; since w0 the blocks Z and all blocks of ints have stayed. -/
def Mid (Z : Nat → Prop) (W w0 w : World) (C cb d0 : Nat) (wy : List (Nat × Nat × Nat)) (p : List Nat) : Prop :=
  CurZ (fun k => Z k ∨ k = cb) W w C wy ∧ W.heap.size ≤ cb ∧ ¬ Z cb ∧ (∃ pv, RCur w cb d0 pv ∧ PathRd w pv p ∧ ∀ g, pv.ownBlock = some g → ¬ Z g) ∧ KX Z w0 w ∧ IntK w0 w ∧ ∀ k, Z k → k < w0.heap.size
theorem Mid.kept (h : Mid Z W w0 w C cb d0 wy p) : Kept W w := h.1.1
theorem Mid.keep (h : Mid Z W w0 w C cb d0 wy p) (hk : Kept w w') : Mid Z W w0 w' C cb d0 wy p := by
  obtain ⟨h1, h2, h3, ⟨pv, h4, h5, h9⟩, h6, h7, h8⟩ := h
  refine ⟨h1.keep hk, h2, h3, ⟨pv, (hk.2.2.2.2 cb h4.cells.2.2.2).trans h4, h5.keep hk, h9⟩, h6.trans ⟨hk.size, fun k hz => hk.2.2.2.2 k (Nat.lt_of_lt_of_le (h8 k hz) h6.1)⟩, h7.trans (kept_intK hk), h8⟩
theorem Mid.lt (h : Mid Z W w0 w C cb d0 wy p) : ∀ k, ((Z k ∨ k = cb) ∨ IntB w k) → k < w.heap.size := by
  obtain ⟨h1, h2, h3, ⟨pv, h4, h5, h9⟩, h6, h7, h8⟩ := h
  rintro k ((h | rfl) | h)
  · exact Nat.lt_of_lt_of_le (h8 k h) h6.1
  · exact h4.cells.2.2.2
  · exact h.lt
/-- The program's cursor has moved. -/
theorem Mid.prog (h : Mid Z W w0 w C cb d0 wy p) (h1 : CurZ (fun k => (Z k ∨ k = cb) ∨ IntB w k) W w' C wy') (h2 : KX (fun k => (Z k ∨ k = cb) ∨ IntB w k) w w') : Mid Z W w0 w' C cb d0 wy' p := by
  obtain ⟨_, g2, g3, ⟨pv, g4, g5, g9⟩, g6, g7, g8⟩ := h
  have hi : IntK w w' := ⟨h2.1, fun k hk => h2.2 k (Or.inr hk)⟩
  exact ⟨h1.less fun k hk => Or.inl hk, g2, g3, ⟨pv, (h2.2 cb (Or.inl (Or.inr rfl))).trans g4, g5.intK hi, g9⟩, g6.trans ⟨h2.1, fun k hk => h2.2 k (Or.inl (Or.inl hk))⟩, g7.trans hi, g8⟩
/-- The document's cursor has moved. -/
theorem Mid.doc (h : Mid Z W w0 w C cb d0 wy p) (hk : KeptBut cb w w') {qv : Value} (h1 : RCur w' cb d0 qv) (h2 : PathRd w' qv p') (h9 : ∀ g, qv.ownBlock = some g → ¬ Z g) : Mid Z W w0 w' C cb d0 wy p' := by
  obtain ⟨g1, g2, g3, ⟨pv, g4, g5, _⟩, g6, g7, g8⟩ := h
  refine ⟨g1.but (Or.inr rfl) g2 hk, g2, g3, ⟨qv, h1, h2, h9⟩, g6.trans ⟨hk.2.2.2.1, fun k hz => hk.2.2.2.2 k (Nat.lt_of_lt_of_le (g8 k hz) g6.1) (fun e => g3 (e ▸ hz))⟩, g7.trans ⟨hk.2.2.2.1, fun k hi => hk.2.2.2.2 k hi.lt (fun e => g4.noInt (e ▸ hi))⟩, g8⟩
theorem Mid.docF (h : Mid Z W w0 w C cb d0 wy p) (hk : KeptBut cb w w') {qv : Value} (h1 : RCur w' cb d0 qv) (h2 : PathF w.heap.size w' qv p') : Mid Z W w0 w' C cb d0 wy p' := by
  have hs := h.2.2.2.2.1.1
  have hz := h.2.2.2.2.2.2
  exact h.doc hk h1 h2.1 (fun g hg hZ => by have := h2.2 g hg; have := hz g hZ; omega)
/-- A new block that must stay besides. -/
theorem Mid.box (h : Mid Z W w0 w C cb d0 wy p) (o : Array Value) (t : TypeId) : Mid (fun k => Z k ∨ k = w.heap.size) W (w.alloc (.cells o t)) (w.alloc (.cells o t)) C cb d0 wy p := by
  have hk : Kept w (w.alloc (.cells o t)) := (Kept.refl w).alloc _ _
  have hs : (w.alloc (.cells o t)).heap.size = w.heap.size + 1 := by simp
  obtain ⟨g1, g2, g3, ⟨pv, g4, g5, g9⟩, g6, g7, g8⟩ := h
  have hcl := g4.cells.2.2.2
  have hpl : ∀ g, pv.ownBlock = some g → g < w.heap.size := fun g hg => by
    rcases g5 with ⟨rfl, _⟩ | ⟨g', cap, cur, rfl, _, _, hc, _⟩
    · simp [Value.ownBlock] at hg
    · have e : g' = g := by injection hg
      subst e
      exact (Array.getElem?_eq_some_iff.1 hc).1
  refine ⟨g1.more hk ?_, g2, ?_, ⟨pv, (hk.2.2.2.2 cb hcl).trans g4, g5.keep hk, fun g hg hz => hz.elim (g9 g hg) (fun e => by have := hpl g hg; omega)⟩, ⟨Nat.le_refl _, fun _ _ => rfl⟩, IntK.refl _, ?_⟩
  · rintro k ((h | h) | h)
    · exact Or.inl (Or.inl h)
    · exact Or.inr (Or.inr (by omega))
    · exact Or.inl (Or.inr h)
  · rintro (h | h)
    · exact g3 h
    · omega
  · rintro k (h | h)
    · have := g8 k h
      have := g6.1
      omega
    · omega
theorem Mid.unbox {o : Array Value} {t : TypeId} (h : Mid (fun k => Z k ∨ k = w.heap.size) W (w.alloc (.cells o t)) w' C cb d0 wy p) (hz : ∀ k, Z k → k < w.heap.size) : Mid Z W w w' C cb d0 wy p := by
  have hk : Kept w (w.alloc (.cells o t)) := (Kept.refl w).alloc _ _
  obtain ⟨g1, g2, g3, ⟨pv, g4, g5, g9⟩, g6, g7, g8⟩ := h
  exact ⟨g1.less fun k hk => hk.elim (fun h => Or.inl (Or.inl h)) Or.inr, g2, fun h => g3 (Or.inl h), ⟨pv, g4, g5, fun g hg h => g9 g hg (Or.inl h)⟩, ⟨Nat.le_trans hk.size g6.1, fun k hk' => (g6.2 k (Or.inl hk')).trans (hk.2.2.2.2 k (hz k hk'))⟩, (kept_intK hk).trans g7, hz⟩
end

/-- What is moved: the forest at W, both sides. -/
structure Grd (P Q : List Nat) (N : Nat → Nd) (X : Nat → Rd) (B : Nat) (W : World) (d0 : Nat) : Prop where
  fF : Forest (fun b => b ∈ P) N B W
  fR : RFor (fun d => d ∈ Q) X (fun d => (N (btw P X d)).width) B W
  fT : ∃ s0 s1 m0 m1, TwinOk s0 s1 m0 m1 P Q N X
  fW : FWid (fun b => b ∈ P) N
  fB : B ≤ W.heap.size
  fd : d0 ∈ Q
section
variable {P Q : List Nat} {N : Nat → Nd} {X : Nat → Rd} {B : Nat} {W : World} {d0 : Nat}
theorem Grd.wd (h : Grd P Q N X B W d0) : (N (btw P X d0)).width ≤ 2305843009213693952 := by
  obtain ⟨s0, s1, m0, m1, hT⟩ := h.fT
  obtain ⟨_, _, _, _, hok, _⟩ := twin_of hT h.fd
  exact Nat.le_trans hok.2.2.1 (Nat.le_trans (Nat.mul_le_mul_right 524288 hok.2.1) (by decide))
/-- Where a way ends. -/
theorem Grd.way (h : Grd P Q N X B W d0) {pre : List (Nat × Nat × Nat)} {q : Nat × Nat × Nat} (hP : PathOk (fun b => b ∈ P) N (btw P X d0) (pre ++ [q])) : Val X (pathW (pre ++ [q])) d0 ∧ ∃ d, d ∈ Q ∧ btw P X d = q.1 ∧ fnd X (fun d => (N (btw P X d)).width) (pathW (pre ++ [q])) d0 0 = (d, q.2.1) ∧ (N q.1).kids.length = (X d).kids.length ∧ (N q.1).kind = (X d).kind := by
  obtain ⟨s0, s1, m0, m1, hT⟩ := h.fT
  obtain ⟨h1, d, h2, h3, h4⟩ := way_fnd hT h.fW h.fd _ pre q rfl hP
  obtain ⟨_, t2, t3, _⟩ := twin_of hT h2
  refine ⟨h1, d, h2, h3, h4, ?_, by rw [← h3]; exact t3⟩
  have := congrArg List.length t2
  rw [List.length_map, List.length_map, h3] at this
  exact this
theorem Grd.len (h : Grd P Q N X B W d0) {wy : List (Nat × Nat × Nat)} (hP : PathOk (fun b => b ∈ P) N (btw P X d0) wy) : wy.length ≤ 4194304 ∧ wy ≠ [] := by
  rcases List.eq_nil_or_concat wy with rfl | ⟨pre, q, rfl⟩
  · have := hP.1
    simp at this
  · rw [List.concat_eq_append] at hP ⊢
    obtain ⟨h1, d, h2, _, h4, _⟩ := h.way hP
    have h5 := fnd_size h.fR _ d0 0 h.fd h1
    have h6 := (h.fR d0 h.fd).2.2.2.2.2.2
    rw [h4] at h5
    have h7 := (h.fR d h2).2.2.1
    rw [pathW_len] at h5
    simp only at h5
    refine ⟨?_, by simp⟩
    omega
theorem Grd.keep (h : Grd P Q N X B W d0) {V : World} (hk : Kept W V) : RFor (fun d => d ∈ Q) X (fun d => (N (btw P X d)).width) B V ∧ B ≤ V.heap.size := ⟨h.fR.kb (hk.kb h.fB), Nat.le_trans h.fB hk.size⟩
end

end Tr
end Ex
end Go.Proofs.Ythpampfbmpdmoaa
namespace Go.Proofs.Ythpampfbmpdmoaa
open Go.RowKit
attribute [local go_sem] Oper.semAt_some
namespace Ex
namespace Tr

/-- Two calls, the program's and the document's, that move both cursors alike. -/
def PairOk (P : List Nat) (N : Nat → Nd) (X : Nat → Rd) (Z : Nat → Prop) (W w0 : World) (C cb d0 : Nat) (wy : List (Nat × Nat × Nat)) (fp : FuncId) (ap : Array Value) (fd : FuncId) (ad : Array Value) : Prop :=
  ∃ (b : Bool) (Ok : List (Nat × Nat × Nat) → Prop), (∀ wy', Ok wy' → PathOk (fun b => b ∈ P) N (btw P X d0) wy') ∧
    (∀ V, Mid Z W w0 V C cb d0 wy (pathW wy) → Calls Try.prog fp ap V fun e V' => e = .returned (.bool b) ∧ ∃ wy', Ok wy' ∧ Mid Z W w0 V' C cb d0 wy' (pathW wy)) ∧
    (∀ V wy', Ok wy' → Mid Z W w0 V C cb d0 wy' (pathW wy) → Calls Try.prog fd ad V fun e V' => e = .returned (.bool b) ∧ Mid Z W w0 V' C cb d0 wy' (pathW wy'))
section
variable {P Q : List Nat} {N : Nat → Nd} {X : Nat → Rd} {B : Nat} {Z : Nat → Prop} {W w0 : World} {C cb d0 : Nat} {wy : List (Nat × Nat × Nat)}
theorem pair_no {fp fd : FuncId} {ap ad : Array Value} (hP : PathOk (fun b => b ∈ P) N (btw P X d0) wy) (h1 : ∀ V, Mid Z W w0 V C cb d0 wy (pathW wy) → Calls Try.prog fp ap V fun e V' => e = .returned (.bool false) ∧ Kept V V') (h2 : ∀ V, Mid Z W w0 V C cb d0 wy (pathW wy) → Calls Try.prog fd ad V fun e V' => e = .returned (.bool false) ∧ Kept V V') : PairOk P N X Z W w0 C cb d0 wy fp ap fd ad := by
  refine ⟨false, fun x => x = wy, fun x hx => hx ▸ hP, fun V hV => (h1 V hV).mono ?_, fun V wy' hw hV => ?_⟩
  · rintro e V' ⟨rfl, hk⟩
    exact ⟨rfl, wy, rfl, hV.keep hk⟩
  · subst hw
    refine (h2 V hV).mono ?_
    rintro e V' ⟨rfl, hk⟩
    exact ⟨rfl, hV.keep hk⟩
theorem pair_down (hG : Grd P Q N X B W d0) (hP : PathOk (fun b => b ∈ P) N (btw P X d0) wy) (a : Int) : PairOk P N X Z W w0 C cb d0 wy 21 #[.pointer (some ⟨C, 0, none⟩), .int .i64 a] 22 #[.pointer (some ⟨cb, 0, none⟩), .int .i64 a] := by
  have hlen := hG.len hP
  rcases List.eq_nil_or_concat wy with rfl | ⟨py, q, rfl⟩
  · exact absurd rfl hlen.2
  rw [List.concat_eq_append] at hP hlen ⊢
  obtain ⟨hv, d, hdQ, hdb, hf, hkl, _⟩ := hG.way hP
  have hq : q.1 ∈ P := hP.2.1 q (by simp)
  have hpl : py.length ≤ 4194304 := by have := hlen.1; simp at this; omega
  by_cases hin : 0 ≤ a ∧ a < ((N q.1).kids.length : Int)
  · obtain ⟨i, rfl⟩ : ∃ i : Nat, a = (i : Int) := ⟨a.toNat, by omega⟩
    obtain ⟨k, hk⟩ : ∃ k, (N q.1).kids[i]? = some k := ⟨_, List.getElem?_eq_getElem (by omega)⟩
    refine ⟨true, fun x => x = py ++ [q] ++ [(k.1, q.2.1 + k.2, i)], fun x hx => hx ▸ hP.down hk ((hG.fF q.1 hq).2.2.2.1 k (List.mem_of_getElem? hk)), fun V hV => (hV.1.int.down hV.lt hG.fF hG.fB hG.fW hP hk).mono ?_, fun V wy' hw hV => ?_⟩
    · rintro e V' ⟨rfl, h1, h2⟩
      exact ⟨rfl, _, rfl, hV.prog h1 h2⟩
    · subst hw
      obtain ⟨pv, g1, g2, g9⟩ := hV.2.2.2.1
      obtain ⟨r1, r2⟩ := hG.keep hV.kept
      refine (rdown_yes cb d0 _ pv i V r1 r2 hG.fd hv g1 g2 hG.wd (by rw [hf]; show i < (X d).kids.length; omega)).mono ?_
      rintro e V' ⟨rfl, h1, qv, h2, h3⟩
      exact ⟨rfl, hV.docF h1 h2 (by rw [pathW_snoc _ _ (by simp)]; exact h3)⟩
  · have hout : a < 0 ∨ ((N q.1).kids.length : Int) ≤ a := by omega
    refine pair_no hP (fun V hV => hV.1.downNo hG.fF hG.fB hq hpl hout) (fun V hV => ?_)
    obtain ⟨pv, g1, g2, g9⟩ := hV.2.2.2.1
    obtain ⟨r1, r2⟩ := hG.keep hV.kept
    exact rdown_no cb d0 _ pv a V r1 r2 hG.fd hv g1 g2 hG.wd (by rw [hf]; show a < 0 ∨ ((X d).kids.length : Int) ≤ a; rw [← hkl]; exact hout)
theorem pair_up (hG : Grd P Q N X B W d0) (hP : PathOk (fun b => b ∈ P) N (btw P X d0) wy) : PairOk P N X Z W w0 C cb d0 wy 23 #[.pointer (some ⟨C, 0, none⟩)] 24 #[.pointer (some ⟨cb, 0, none⟩)] := by
  have hlen := hG.len hP
  rcases List.eq_nil_or_concat wy with rfl | ⟨py, q, rfl⟩
  · exact absurd rfl hlen.2
  rw [List.concat_eq_append] at hP hlen ⊢
  have hpl : py.length ≤ 4194304 := by have := hlen.1; simp at this; omega
  rcases Nat.eq_zero_or_pos py.length with h0 | h0
  · have e : py = [] := List.length_eq_zero_iff.1 h0
    subst e
    refine pair_no hP (fun V hV => ((show CurZ _ W V C [q] from hV.1).upTop).mono ?_) (fun V hV => ?_)
    · rintro e V' ⟨rfl, rfl⟩
      exact ⟨rfl, Kept.refl _⟩
    · obtain ⟨pv, g1, g2, g9⟩ := hV.2.2.2.1
      have e : pathW ([] ++ [q]) = [] := rfl
      rw [e] at g2
      obtain ⟨pa, pc, rfl⟩ : ∃ a c, pv = .slice a 0 c := by
        rcases g2.form with ⟨rfl, _⟩ | ⟨g, cap, rfl⟩
        · exact ⟨_, _, rfl⟩
        · exact ⟨_, _, rfl⟩
      refine (rup_no cb d0 pa pc g1).mono ?_
      rintro e V' ⟨rfl, rfl⟩
      exact ⟨rfl, Kept.refl _⟩
  · have hne : py ≠ [] := fun e => by rw [e] at h0; simp at h0
    refine ⟨true, fun x => x = py, fun x hx => hx ▸ hP.front hne, fun V hV => (hV.1.int.up hV.lt h0 hpl).mono ?_, fun V wy' hw hV => ?_⟩
    · rintro e V' ⟨rfl, h1, h2⟩
      exact ⟨rfl, _, rfl, hV.prog h1 h2⟩
    · subst hw
      obtain ⟨pv, g1, g2, g9⟩ := hV.2.2.2.1
      rw [pathW_snoc _ _ hne] at g2
      rcases g2.form with ⟨_, h⟩ | ⟨g, cap, rfl⟩
      · simp at h
      have hl2 : (pathW wy' ++ [q.2.2]).length = (pathW wy').length + 1 := by simp
      have hcap := g2.cells.2.1
      rw [hl2] at g1 g2 hcap
      refine (rup_yes cb d0 g (pathW wy').length cap g1 (by rw [pathW_len]; omega) hcap).mono ?_
      rintro e V' ⟨rfl, h1, h2⟩
      refine ⟨rfl, hV.doc h1 h2 (g2.pop.same fun g' cur hg => h1.2.2.2.2 g' (Array.getElem?_eq_some_iff.1 hg).1 (fun e => g1.noInt ⟨cur, e ▸ hg⟩)) (fun g' hg' => g9 g' hg')⟩
theorem pair_aside (hG : Grd P Q N X B W d0) (hP : PathOk (fun b => b ∈ P) N (btw P X d0) wy) (by_ : Int) (hby : by_ = 1 ∨ by_ = -1) : PairOk P N X Z W w0 C cb d0 wy 48 #[.pointer (some ⟨C, 0, none⟩), .int .i64 by_] 26 #[.pointer (some ⟨cb, 0, none⟩), .int .i64 by_] := by
  have hlen := hG.len hP
  rcases List.eq_nil_or_concat wy with rfl | ⟨py, q, rfl⟩
  · exact absurd rfl hlen.2
  rw [List.concat_eq_append] at hP hlen ⊢
  rcases List.eq_nil_or_concat py with rfl | ⟨pre, p, rfl⟩
  · refine pair_no hP (fun V hV => ((show CurZ _ W V C [q] from hV.1).asideTop by_).mono ?_) (fun V hV => ?_)
    · rintro e V' ⟨rfl, rfl⟩
      exact ⟨rfl, Kept.refl _⟩
    · obtain ⟨pv, g1, g2, g9⟩ := hV.2.2.2.1
      have e : pathW ([] ++ [q]) = [] := rfl
      rw [e] at g2
      obtain ⟨pa, pc, rfl⟩ : ∃ a c, pv = .slice a 0 c := by
        rcases g2.form with ⟨rfl, _⟩ | ⟨g, cap, rfl⟩
        · exact ⟨_, _, rfl⟩
        · exact ⟨_, _, rfl⟩
      refine (rbeside_top cb d0 pa pc by_ V g1).mono ?_
      rintro e V' ⟨rfl, rfl⟩
      exact ⟨rfl, Kept.refl _⟩
  rw [List.concat_eq_append] at hP hlen ⊢
  have hne : pre ++ [p] ≠ [] := by simp
  obtain ⟨hvq, _⟩ := hG.way hP
  have hPp := hP.front hne
  obtain ⟨hv, d, hdQ, hdb, hf, hkl, _⟩ := hG.way hPp
  rw [pathW_snoc _ _ hne] at hvq
  have e2 : pre ++ [p] ++ [q] = pre ++ [p, q] := by simp
  have hP2 := hP
  rw [e2] at hP2
  by_cases hin : 0 ≤ (q.2.2 : Int) + by_ ∧ (q.2.2 : Int) + by_ < ((N p.1).kids.length : Int)
  · obtain ⟨i, hie⟩ : ∃ i : Nat, (q.2.2 : Int) + by_ = (i : Int) := ⟨((q.2.2 : Int) + by_).toNat, by omega⟩
    obtain ⟨k, hk⟩ : ∃ k, (N p.1).kids[i]? = some k := ⟨_, List.getElem?_eq_getElem (by omega)⟩
    refine ⟨true, fun x => x = pre ++ [p] ++ [(k.1, p.2.1 + k.2, i)], fun x hx => ?_, fun V hV => ?_, fun V wy' hw hV => ?_⟩
    · rw [hx, List.append_assoc]
      exact hP2.turn hG.fF hk
    · have hz := hV.1.int
      rw [e2] at hz
      refine (hz.right hV.lt hG.fF hG.fB hG.fW hP2 hby hie hk).mono ?_
      rintro e V' ⟨rfl, h1, h2⟩
      refine ⟨rfl, _, rfl, hV.prog ?_ h2⟩
      rw [List.append_assoc]
      exact h1
    · subst hw
      obtain ⟨pv, g1, g2, g9⟩ := hV.2.2.2.1
      obtain ⟨r1, r2⟩ := hG.keep hV.kept
      rw [pathW_snoc _ _ hne] at g2
      refine (rbeside_yes cb d0 _ q.2.2 pv by_ V r1 r2 hG.fd hvq g1 g2 hG.wd i hie (by rw [hf]; show i < (X d).kids.length; omega)).mono ?_
      rintro e V' ⟨rfl, h1, qv, h2, h3⟩
      exact ⟨rfl, hV.docF h1 h2 (by rw [pathW_snoc _ _ hne]; exact h3)⟩
  · have hout : (q.2.2 : Int) + by_ < 0 ∨ ((N p.1).kids.length : Int) ≤ (q.2.2 : Int) + by_ := by omega
    refine pair_no hP (fun V hV => ?_) (fun V hV => ?_)
    · have hz := hV.1
      rw [e2] at hz
      exact hz.rightNo hG.fF hG.fB hG.fW hP2 hby hout
    · obtain ⟨pv, g1, g2, g9⟩ := hV.2.2.2.1
      obtain ⟨r1, r2⟩ := hG.keep hV.kept
      rw [pathW_snoc _ _ hne] at g2
      exact rbeside_no cb d0 _ q.2.2 pv by_ V r1 r2 hG.fd hvq g1 g2 hG.wd hby (by rw [hf]; show (q.2.2 : Int) + by_ < 0 ∨ ((X d).kids.length : Int) ≤ (q.2.2 : Int) + by_; rw [← hkl]; exact hout)
theorem PairOk.left {fp fp' fd : FuncId} {ap ap' ad : Array Value} (h : PairOk P N X Z W w0 C cb d0 wy fp ap fd ad) (hc : ∀ (V : World) (R : Ending → World → Prop), (Calls Try.prog fp ap V fun e w' => ∃ b, e = .returned (.bool b) ∧ R e w') → Calls Try.prog fp' ap' V R) : PairOk P N X Z W w0 C cb d0 wy fp' ap' fd ad := by
  obtain ⟨b, Ok, h1, h2, h3⟩ := h
  refine ⟨b, Ok, h1, fun V hV => hc V _ ((h2 V hV).mono ?_), h3⟩
  rintro e V' ⟨rfl, h⟩
  exact ⟨b, rfl, rfl, h⟩
theorem pair_to (hG : Grd P Q N X B W d0) (hP : PathOk (fun b => b ∈ P) N (btw P X d0) wy) (a : Int) (ha1 : -9223372036854775808 ≤ a) (ha2 : a ≤ 9223372036854775807) : PairOk P N X Z W w0 C cb d0 wy 28 #[.pointer (some ⟨C, 0, none⟩), .int .i64 a] 29 #[.pointer (some ⟨cb, 0, none⟩), .int .i64 a] := by
  by_cases hin : 0 ≤ a ∧ a < ((N (btw P X d0)).width : Int)
  · obtain ⟨x, rfl⟩ : ∃ x : Nat, a = (x : Int) := ⟨a.toNat, by omega⟩
    refine ⟨true, fun y => ∃ pre q, y = pre ++ [q] ∧ PathOk (fun b => b ∈ P) N (btw P X d0) (pre ++ [q]) ∧ (N q.1).kind = 1 ∧ holdsB q (N q.1).width x = true, ?_, fun V hV => (hV.1.int.toYes hV.lt hG.fF hG.fB hG.fW hP (by omega)).mono ?_, fun V wy' hw hV => ?_⟩
    · rintro y ⟨pre, q, rfl, h, _⟩
      exact h
    · rintro e V' ⟨rfl, pre, q, h1, h2, h3, h4, h5⟩
      exact ⟨rfl, _, ⟨pre, q, rfl, h1, h2, h3⟩, hV.prog h4 h5⟩
    · obtain ⟨pre, q, rfl, h1, h2, h3⟩ := hw
      obtain ⟨hv, d, hdQ, hdb, hf, hkl, hkd⟩ := hG.way h1
      obtain ⟨pv, g1, g2, g9⟩ := hV.2.2.2.1
      obtain ⟨r1, r2⟩ := hG.keep hV.kept
      refine (rto_yes cb d0 pv x V r1 r2 hG.fd g1 hG.wd _ hv ?_).mono ?_
      · rw [hf]
        unfold holdsB at h3
        rw [Bool.and_eq_true, decide_eq_true_eq, decide_eq_true_eq] at h3
        refine ⟨by show (X d).kind = 1; rw [← hkd]; exact h2, h3.1, ?_⟩
        show (x : Int) < (q.2.1 : Int) + ((N (btw P X d)).width : Int)
        rw [hdb]
        omega
      · rintro e V' ⟨rfl, k1, qv, k2, k3⟩
        exact ⟨rfl, hV.docF k1 k2 k3⟩
  · have hno : a < 0 ∨ ((N (btw P X d0)).width : Int) ≤ a := by omega
    refine pair_no hP (fun V hV => hV.1.toNo hG.fF hG.fB hP ha1 ha2 hno) (fun V hV => ?_)
    obtain ⟨pv, g1, g2, g9⟩ := hV.2.2.2.1
    obtain ⟨r1, r2⟩ := hG.keep hV.kept
    exact rto_no cb d0 pv a V r1 r2 hG.fd g1 hG.wd hno
end

end Tr
end Ex
end Go.Proofs.Ythpampfbmpdmoaa
namespace Go.Proofs.Ythpampfbmpdmoaa
open Go.RowKit
attribute [local go_sem] Oper.semAt_some
namespace Ex
namespace Tr

/-- Both cursors have moved alike. -/
def MovedR (P : List Nat) (N : Nat → Nd) (X : Nat → Rd) (Z : Nat → Prop) (W w0 w : World) (C cb d0 : Nat) : Prop := ∃ wy, PathOk (fun b => b ∈ P) N (btw P X d0) wy ∧ Mid Z W w0 w C cb d0 wy (pathW wy)
set_option linter.unusedSimpArgs false in
set_option maxRecDepth 100000 in
set_option maxHeartbeats 4000000 in
theorem moved_is {P Q : List Nat} {N : Nat → Nd} {X : Nat → Rd} {B : Nat} {Z : Nat → Prop} {W w : World} {C cb d0 : Nat} {wy : List (Nat × Nat × Nat)} (hG : Grd P Q N X B W d0) (hP : PathOk (fun b => b ∈ P) N (btw P X d0) wy) (hM : Mid Z W w w C cb d0 wy (pathW wy)) (wh k a : Int) (ha1 : -9223372036854775808 ≤ a) (ha2 : a ≤ 9223372036854775807) :
    Calls Try.prog 8 #[.pointer (some ⟨C, 0, none⟩), .pointer (some ⟨cb, 0, none⟩), .agg #[.int .i64 wh, .int .i64 k, .int .i64 a]] w fun e w' => e = .returned (.bool true) ∧ MovedR P N X Z W w w' C cb d0 := by
  have HZ := hide1 hM.2.2.2.2.2.2
  have HFIN : Hid (∀ w', MovedR P N X (fun k => Z k ∨ k = w.heap.size) W (w.alloc (.cells #[.int .i64 wh, .int .i64 k, .int .i64 a] 45)) w' C cb d0 → MovedR P N X Z W w w' C cb d0) := by
    rintro w' ⟨wy', h1, h2⟩
    exact ⟨wy', h1, h2.unbox HZ.out⟩
  have HM := hide1 (hM.box #[.int .i64 wh, .int .i64 k, .int .i64 a] 45)
  have HBX : Hid ((w.alloc (.cells #[.int .i64 wh, .int .i64 k, .int .i64 a] 45)).heap[w.heap.size]? = some (.cells #[.int .i64 wh, .int .i64 k, .int .i64 a] 45 (0, 0))) := World.alloc_heap_new w _
  have HG := hide1 hG
  have HP := hide1 hP
  clear hM hG hP
  go_enter Try.func8, Try.ntmps8
  go_upto_region 1 with fail
  obtain ⟨w1, hw1⟩ : ∃ w1, w.alloc (.cells #[.int .i64 wh, .int .i64 k, .int .i64 a] 45) = w1 := ⟨_, rfl⟩
  obtain ⟨bx, hbx⟩ : ∃ bx, w.heap.size = bx := ⟨_, rfl⟩
  rw [hw1, hbx] at HFIN HM HBX
  rw [hw1, hbx]
  clear hw1 hbx HZ
  have b1 : w1.cell? ⟨bx, 1, none⟩ = some (.int .i64 k) := by simp [World.cell?, HBX.out]
  go_upto_region 2 with fail
  clear b1
  by_cases h1 : k = 1
  · subst h1
    obtain ⟨b, Ok, o1, o2, o3⟩ := (show PairOk P N X (fun k => Z k ∨ k = bx) W w1 C cb d0 wy _ _ _ _ from pair_down HG.out HP.out a)
    have O1 := hide1 o1
    have O2 := hide1 o2
    have O3 := hide1 o3
    clear o1 o2 o3
    cases b
    all_goals
      go_upto_region 3 with fail
      have kS : ∀ V : World, V.heap[bx]? = some (.cells #[.int .i64 wh, .int .i64 1, .int .i64 a] 45 (0, 0)) → V.cell? ⟨bx, 2, none⟩ = some (.int .i64 a) := fun V h => by simp [World.cell?, h]
      have hb1 := HBX.out
      go_region_held3 (fun V => V.heap[bx]? = some (.cells #[.int .i64 wh, .int .i64 1, .int .i64 a] 45 (0, 0))) (first | assumption)
        ((first
          | (go_at_call 21; refine (O2.out _ (HM.out.keep (drew_kept _))).mono ?_; rintro e w2 ⟨rfl, wy2, hok2, hm2⟩; have hb2 : w2.heap[bx]? = some (.cells #[.int .i64 wh, .int .i64 1, .int .i64 a] 45 (0, 0)) := (hm2.2.2.2.2.1.2 bx (Or.inr rfl)).trans HBX.out; have HOK2 := hide1 hok2; have HM2 := hide1 hm2; clear hok2 hm2)
          | (go_at_call 22; refine (O3.out _ _ HOK2.out HM2.out).mono ?_; rintro e w3 ⟨rfl, hm3⟩; have hb3 : w3.heap[bx]? = some (.cells #[.int .i64 wh, .int .i64 1, .int .i64 a] 45 (0, 0)) := (hm3.2.2.2.2.1.2 bx (Or.inr rfl)).trans HBX.out; have HM3 := hide1 hm3; clear hm3)))
      go_wp2_with fail
      go_ret
      exact ⟨rfl, HFIN.out _ ⟨_, O1.out _ HOK2.out, HM3.out⟩⟩
  by_cases h2 : k = 2
  · subst h2
    obtain ⟨b, Ok, o1, o2, o3⟩ := (show PairOk P N X (fun k => Z k ∨ k = bx) W w1 C cb d0 wy _ _ _ _ from pair_up HG.out HP.out)
    have O1 := hide1 o1
    have O2 := hide1 o2
    have O3 := hide1 o3
    clear o1 o2 o3
    cases b
    all_goals
      go_wp2_with (first
        | (go_at_call 23; refine (O2.out _ HM.out).mono ?_; rintro e w2 ⟨rfl, wy2, hok2, hm2⟩; have HOK2 := hide1 hok2; have HM2 := hide1 hm2; clear hok2 hm2)
        | (go_at_call 24; refine (O3.out _ _ HOK2.out HM2.out).mono ?_; rintro e w3 ⟨rfl, hm3⟩; have HM3 := hide1 hm3; clear hm3))
      go_ret
      exact ⟨rfl, HFIN.out _ ⟨_, O1.out _ HOK2.out, HM3.out⟩⟩
  by_cases h3 : k = 3
  · subst h3
    obtain ⟨b, Ok, o1, o2, o3⟩ := (show PairOk P N X (fun k => Z k ∨ k = bx) W w1 C cb d0 wy _ _ _ _ from (pair_aside HG.out HP.out 1 (Or.inl rfl)).left (fun V R h => right_of h))
    have O1 := hide1 o1
    have O2 := hide1 o2
    have O3 := hide1 o3
    clear o1 o2 o3
    cases b
    all_goals
      go_wp2_with (first
        | (go_at_call 25; refine (O2.out _ HM.out).mono ?_; rintro e w2 ⟨rfl, wy2, hok2, hm2⟩; have HOK2 := hide1 hok2; have HM2 := hide1 hm2; clear hok2 hm2)
        | (go_at_call 26; refine (O3.out _ _ HOK2.out HM2.out).mono ?_; rintro e w3 ⟨rfl, hm3⟩; have HM3 := hide1 hm3; clear hm3))
      go_ret
      exact ⟨rfl, HFIN.out _ ⟨_, O1.out _ HOK2.out, HM3.out⟩⟩
  by_cases h4 : k = 4
  · subst h4
    obtain ⟨b, Ok, o1, o2, o3⟩ := (show PairOk P N X (fun k => Z k ∨ k = bx) W w1 C cb d0 wy _ _ _ _ from (pair_aside HG.out HP.out (-1) (Or.inr rfl)).left (fun V R h => left_of h))
    have O1 := hide1 o1
    have O2 := hide1 o2
    have O3 := hide1 o3
    clear o1 o2 o3
    cases b
    all_goals
      go_wp2_with (first
        | (go_at_call 27; refine (O2.out _ HM.out).mono ?_; rintro e w2 ⟨rfl, wy2, hok2, hm2⟩; have HOK2 := hide1 hok2; have HM2 := hide1 hm2; clear hok2 hm2)
        | (go_at_call 26; refine (O3.out _ _ HOK2.out HM2.out).mono ?_; rintro e w3 ⟨rfl, hm3⟩; have HM3 := hide1 hm3; clear hm3))
      go_ret
      exact ⟨rfl, HFIN.out _ ⟨_, O1.out _ HOK2.out, HM3.out⟩⟩
  by_cases h5 : k = 5
  · subst h5
    obtain ⟨b, Ok, o1, o2, o3⟩ := (show PairOk P N X (fun k => Z k ∨ k = bx) W w1 C cb d0 wy _ _ _ _ from pair_to HG.out HP.out a ha1 ha2)
    have O1 := hide1 o1
    have O2 := hide1 o2
    have O3 := hide1 o3
    clear o1 o2 o3
    cases b
    all_goals
      go_upto_region 11 with fail
      have kS : ∀ V : World, V.heap[bx]? = some (.cells #[.int .i64 wh, .int .i64 5, .int .i64 a] 45 (0, 0)) → V.cell? ⟨bx, 2, none⟩ = some (.int .i64 a) := fun V h => by simp [World.cell?, h]
      have hb1 := HBX.out
      go_region_held3 (fun V => V.heap[bx]? = some (.cells #[.int .i64 wh, .int .i64 5, .int .i64 a] 45 (0, 0))) (first | assumption)
        ((first
          | (go_at_call 28; refine (O2.out _ (HM.out.keep (drew_kept _))).mono ?_; rintro e w2 ⟨rfl, wy2, hok2, hm2⟩; have hb2 : w2.heap[bx]? = some (.cells #[.int .i64 wh, .int .i64 5, .int .i64 a] 45 (0, 0)) := (hm2.2.2.2.2.1.2 bx (Or.inr rfl)).trans HBX.out; have HOK2 := hide1 hok2; have HM2 := hide1 hm2; clear hok2 hm2)
          | (go_at_call 29; refine (O3.out _ _ HOK2.out HM2.out).mono ?_; rintro e w3 ⟨rfl, hm3⟩; have hb3 : w3.heap[bx]? = some (.cells #[.int .i64 wh, .int .i64 5, .int .i64 a] 45 (0, 0)) := (hm3.2.2.2.2.1.2 bx (Or.inr rfl)).trans HBX.out; have HM3 := hide1 hm3; clear hm3)))
      go_wp2_with fail
      go_ret
      exact ⟨rfl, HFIN.out _ ⟨_, O1.out _ HOK2.out, HM3.out⟩⟩
  go_wp2_with fail
  go_ret
  exact ⟨rfl, HFIN.out _ ⟨_, HP.out, HM.out⟩⟩

end Tr
end Ex
end Go.Proofs.Ythpampfbmpdmoaa
namespace Go.Proofs.Ythpampfbmpdmoaa
open Go.RowKit
attribute [local go_sem] Oper.semAt_some
namespace Ex
namespace Tr

theorem but2c (g : Nat) (w : World) (x0 x1 : Value) : KeptBut g w ((w.setCell ⟨g, 0, none⟩ x0).setCell ⟨g, 1, none⟩ x1) := (setCell_but _ _ _ _).trans (setCell_but _ _ _ _)
theorem set2c {w : World} {g : Nat} {y0 y1 : Value} {t : TypeId} (h : w.heap[g]? = some (.cells #[y0, y1] t (0, 0))) (x0 x1 : Value) : ((w.setCell ⟨g, 0, none⟩ x0).setCell ⟨g, 1, none⟩ x1).heap[g]? = some (.cells #[x0, x1] t (0, 0)) := by
  have hl := (Array.getElem?_eq_some_iff.1 h).1
  have he := Option.some.inj ((Array.getElem?_eq_getElem hl).symm.trans h)
  simp [World.setCell, Array.getElem_modify, hl, he]
theorem new2 {w w' : World} {y0 y1 : Value} {t : TypeId} {g : Nat} (hg : w.heap.size = g) (hk : Kept (w.alloc (.cells #[y0, y1] t)) w') : w'.heap[g]? = some (.cells #[y0, y1] t (0, 0)) ∧ w'.cell? ⟨g, 0, none⟩ = some y0 ∧ w'.cell? ⟨g, 1, none⟩ = some y1 ∧ w'.frozen? ⟨g, 0, none⟩ = false ∧ w'.frozen? ⟨g, 1, none⟩ = false ∧ g < w'.heap.size := by
  subst hg
  have h := World.alloc_heap_new w (.cells #[y0, y1] t)
  have h2 := (hk.2.2.2.2 w.heap.size (by simp)).trans h
  refine ⟨h2, ?_, ?_, ?_, ?_, (Array.getElem?_eq_some_iff.1 h2).1⟩ <;> simp [World.cell?, World.frozen?, h2]
theorem keep2 {w w' : World} {y0 y1 : Value} {t : TypeId} {g : Nat} (h : w.heap[g]? = some (.cells #[y0, y1] t (0, 0))) (hk : Kept w w') : w'.heap[g]? = some (.cells #[y0, y1] t (0, 0)) ∧ w'.cell? ⟨g, 0, none⟩ = some y0 ∧ w'.cell? ⟨g, 1, none⟩ = some y1 ∧ w'.frozen? ⟨g, 0, none⟩ = false ∧ w'.frozen? ⟨g, 1, none⟩ = false ∧ g < w'.heap.size := by
  have h2 := (hk.2.2.2.2 g (Array.getElem?_eq_some_iff.1 h).1).trans h
  refine ⟨h2, ?_, ?_, ?_, ?_, (Array.getElem?_eq_some_iff.1 h2).1⟩ <;> simp [World.cell?, World.frozen?, h2]
/-- Two cursors of the program, in an array. -/
def TwoC (W wx : World) (b bp C0 C1 : Nat) : Prop := Kept W wx ∧ ∃ A0 A1 : Nat → Prop, (∀ k, A0 k → ¬ A1 k) ∧ (∀ k, A0 k → W.heap.size ≤ k ∧ k < wx.heap.size) ∧ (∀ k, A1 k → W.heap.size ≤ k ∧ k < wx.heap.size) ∧ ¬ A0 bp ∧ ¬ A1 bp ∧ W.heap.size ≤ bp ∧ CurZ (fun k => ¬ A0 k) W wx C0 [(b, 0, 0)] ∧ CurZ (fun k => ¬ A1 k) W wx C1 [(b, 0, 0)] ∧ wx.heap[bp]? = some (.cells #[.pointer (some ⟨C0, 0, none⟩), .pointer (some ⟨C1, 0, none⟩)] 37 (0, 0))
theorem twoC_mk {W V1 w2 V2 w3 wx : World} {b bp C0 C1 : Nat} (k1 : Kept W V1) (kk2 : Kept V1 w2) (c0 : CurZ (fun k => k < V1.heap.size) W w2 (V1.heap.size + 1) [(b, 0, 0)]) (k2 : Kept w2 V2) (kk3 : Kept V2 w3) (c1 : CurZ (fun k => k < V2.heap.size) W w3 (V2.heap.size + 1) [(b, 0, 0)]) (e0 : V1.heap.size + 1 = C0) (e1 : V2.heap.size + 1 = C1) (hbp : (W.heap.size ≤ bp ∧ bp < V1.heap.size) ∨ (w2.heap.size ≤ bp ∧ bp < V2.heap.size) ∨ w3.heap.size ≤ bp) (hx : KeptBut bp w3 wx) (hb : wx.heap[bp]? = some (.cells #[.pointer (some ⟨C0, 0, none⟩), .pointer (some ⟨C1, 0, none⟩)] 37 (0, 0))) : TwoC W wx b bp C0 C1 := by
  subst e0 e1
  have s1 := k1.size
  have s2 := kk2.size
  have s3 := k2.size
  have s4 := kk3.size
  have s5 := hx.2.2.2.1
  have hW3 : Kept W w3 := gtrans k1 (gtrans kk2 (gtrans k2 kk3))
  have hA0 : ¬ (V1.heap.size ≤ bp ∧ bp < w2.heap.size) := by omega
  have hA1 : ¬ (V2.heap.size ≤ bp ∧ bp < w3.heap.size) := by omega
  refine ⟨KeptBut.new hW3 hx (by omega), fun k => V1.heap.size ≤ k ∧ k < w2.heap.size, fun k => V2.heap.size ≤ k ∧ k < w3.heap.size, fun k h h' => by omega, fun k h => by omega, fun k h => by omega, hA0, hA1, by omega, ?_, ?_, hb⟩
  · refine (c0.more (gtrans k2 kk3) (Z' := fun k => ¬ (V1.heap.size ≤ k ∧ k < w2.heap.size)) (fun k hk => ?_)).but hA0 (by omega) hx
    rcases Nat.lt_or_ge k V1.heap.size with h | h
    · exact Or.inl h
    · exact Or.inr (Or.inr (by omega))
  · refine (c1.more (Kept.refl _) (Z' := fun k => ¬ (V2.heap.size ≤ k ∧ k < w3.heap.size)) (fun k hk => ?_)).but hA1 (by omega) hx
    rcases Nat.lt_or_ge k V2.heap.size with h | h
    · exact Or.inl h
    · exact Or.inr (Or.inr (by omega))

/-- Two cursors of the document, in an array. -/
def TwoR (W wx : World) (d br c0 c1 : Nat) : Prop := Kept W wx ∧ W.heap.size ≤ br ∧ W.heap.size ≤ c0 ∧ W.heap.size ≤ c1 ∧ c0 ≠ c1 ∧ c0 ≠ br ∧ c1 ≠ br ∧ RCur wx c0 d (.slice none 0 0) ∧ RCur wx c1 d (.slice none 0 0) ∧ wx.heap[br]? = some (.cells #[.pointer (some ⟨c0, 0, none⟩), .pointer (some ⟨c1, 0, none⟩)] 43 (0, 0))
/-- What last tells, as a number. -/
def LastJ (P : List Nat) (N : Nat → Nd) (r : Int) : Prop := r = -1 ∨ ∃ i b : Nat, r = (i : Int) ∧ P[i]? = some b ∧ (N b).size ≤ 4000
theorem lastJ_of {P : List Nat} {N : Nat → Nd} {e : Ending} (h : LastR P N e) : ∃ r, e = .returned (.int .i64 r) ∧ LastJ P N r := by
  rcases h with h | ⟨i, b, h, h1, h2⟩
  · exact ⟨_, h, Or.inl rfl⟩
  · exact ⟨_, h, Or.inr ⟨i, b, rfl, h1, h2⟩⟩

theorem heap3 (w : World) (o0 o1 o2 : Obj) : (((w.alloc o0).alloc o1).alloc o2).drew.heap[w.heap.size]? = some o0 ∧ (((w.alloc o0).alloc o1).alloc o2).drew.heap[w.heap.size + 1]? = some o1 ∧ (((w.alloc o0).alloc o1).alloc o2).drew.heap[w.heap.size + 1 + 1]? = some o2 := by
  have h1 : (w.alloc o0).heap.size = w.heap.size + 1 := by simp
  have h2 : ((w.alloc o0).alloc o1).heap.size = w.heap.size + 1 + 1 := by simp
  refine ⟨?_, ?_, ?_⟩
  · exact (heap_alloc_old _ _ (by omega)).trans ((heap_alloc_old _ _ (by omega)).trans (World.alloc_heap_new w _))
  · refine (heap_alloc_old _ _ (by omega)).trans ?_
    rw [← h1]
    exact World.alloc_heap_new _ _
  · rw [← h2]
    exact World.alloc_heap_new _ _
theorem kept3 (w : World) (a0 a1 a2 : Array Value) (t0 t1 t2 : TypeId) : Kept w (((w.alloc (.cells a0 t0)).alloc (.cells a1 t1)).alloc (.cells a2 t2)).drew := gtrans ((((Kept.refl _).alloc _ _).alloc _ _).alloc _ _) (drew_kept _)
/-- Moves that came in. -/
def MovesA (A : Nat) (w : World) (v : Value) (l : List (Int × Int × Int)) : Prop := ∃ a cap, v = .slice a l.length cap ∧ l.length ≤ cap ∧ l.length ≤ 1048576 ∧ (l = [] ∨ ∃ c o, a = some ⟨c, o, none⟩ ∧ c < A ∧ ∀ (i : Nat) (x : Int × Int × Int), l[i]? = some x → w.cell? ⟨c, o + i * 3, none⟩ = some (.int .i64 x.1) ∧ w.cell? ⟨c, o + i * 3 + 1, none⟩ = some (.int .i64 x.2.1) ∧ w.cell? ⟨c, o + i * 3 + 2, none⟩ = some (.int .i64 x.2.2) ∧ -9223372036854775808 ≤ x.2.2 ∧ x.2.2 ≤ 9223372036854775807)
/-- Two cursors of each side: A0, A1 the blocks of each pair, E blocks that must stay. -/
def Two (E A0 A1 : Nat → Prop) (W w : World) (C0 C1 c0 c1 d : Nat) (wy0 wy1 : List (Nat × Nat × Nat)) : Prop :=
  (∀ k, A0 k → ¬ A1 k) ∧ (∀ k, A0 k → k < w.heap.size) ∧ (∀ k, A1 k → k < w.heap.size) ∧ (∀ k, E k → k < w.heap.size ∧ ¬ A0 k ∧ ¬ A1 k) ∧
  Mid (fun k => k < w.heap.size ∧ ¬ A0 k) W w w C0 c0 d wy0 (pathW wy0) ∧ Mid (fun k => k < w.heap.size ∧ ¬ A1 k) W w w C1 c1 d wy1 (pathW wy1)
section
variable {E A0 A1 : Nat → Prop} {W w w' : World} {C0 C1 c0 c1 d C cb : Nat} {wy0 wy1 wy : List (Nat × Nat × Nat)} {p : List Nat}
theorem Two.swap (h : Two E A0 A1 W w C0 C1 c0 c1 d wy0 wy1) : Two E A1 A0 W w C1 C0 c1 c0 d wy1 wy0 := by
  obtain ⟨h1, h2, h3, h4, h5, h6⟩ := h
  exact ⟨fun k h h' => h1 k h' h, h3, h2, fun k hk => ⟨(h4 k hk).1, (h4 k hk).2.2, (h4 k hk).2.1⟩, h6, h5⟩
/-- A pair that was left alone. -/
theorem Mid.stay (h : Mid (fun k => k < w.heap.size ∧ ¬ A1 k) W w w C cb d wy p) (hk : KX A1 w w') (hi : IntK w w') (hW : Kept W w') : Mid (fun k => k < w'.heap.size ∧ ¬ A1 k) W w' w' C cb d wy p := by
  obtain ⟨g1, g2, g3, ⟨pv, g4, g5, g9⟩, _, _, _⟩ := h
  have hpl : ∀ g, pv.ownBlock = some g → g < w.heap.size := fun g hg => by
    rcases g5 with ⟨rfl, _⟩ | ⟨g', cap, cur, rfl, _, _, hc, _⟩
    · simp [Value.ownBlock] at hg
    · have e : g' = g := by injection hg
      subst e
      exact (Array.getElem?_eq_some_iff.1 hc).1
  have hcl := g4.cells.2.2.2
  have hcb : A1 cb := by
    by_cases h : A1 cb
    · exact h
    · exact absurd ⟨hcl, h⟩ g3
  have hCl := g1.ltC
  obtain ⟨q1, q2, q3, wv, q4, q5, q6⟩ := g1
  have hin : ∀ k, k < w.heap.size → ¬ ((k < w.heap.size ∧ ¬ A1 k) ∨ k = cb) → A1 k := fun k hk hn => by
    by_cases h : A1 k
    · exact h
    · exact absurd (Or.inl ⟨hk, h⟩) hn
  refine ⟨⟨hW, q2, ?_, wv, (hk.2 C (hin C hCl q3)).trans q4, owns_same q5 (fun k hd => hk.2 k (hin k (World.ownsRow.lt q5 k hd).2 (q6 k hd).2)), fun k hd => ⟨(q6 k hd).1, ?_⟩⟩, g2, ?_, ⟨pv, (hk.2 cb hcb).trans g4, g5.intK hi, fun g hg hz => g9 g hg ⟨hpl g hg, hz.2⟩⟩, ⟨Nat.le_refl _, fun _ _ => rfl⟩, IntK.refl _, fun k hk => hk.1⟩
  · rintro (h | h)
    · exact h.2 (hin C hCl q3)
    · exact q3 (Or.inr h)
  · rintro (h | h)
    · exact h.2 (hin k (World.ownsRow.lt q5 k hd).2 (q6 k hd).2)
    · exact (q6 k hd).2 (Or.inr h)
  · exact fun h => h.2 hcb
/-- The first pair has moved. -/
theorem Two.move (h : Two E A0 A1 W w C0 C1 c0 c1 d wy0 wy1) (hm : Mid (fun k => k < w.heap.size ∧ ¬ A0 k) W w w' C0 c0 d wy (pathW wy)) : ∃ A, Two E A A1 W w' C0 C1 c0 c1 d wy wy1 ∧ KX E w w' := by
  obtain ⟨h1, h2, h3, h4, h5, h6⟩ := h
  have hW : Kept W w' := hm.kept
  obtain ⟨g1, g2, g3, g4, g5, g6, g7⟩ := hm
  have hs := g5.1
  refine ⟨fun k => A0 k ∨ (w.heap.size ≤ k ∧ k < w'.heap.size), ⟨?_, ?_, ?_, ?_, ?_, ?_⟩, hs, fun k hk => g5.2 k ⟨(h4 k hk).1, (h4 k hk).2.1⟩⟩
  · rintro k (hk | hk) h'
    · exact h1 k hk h'
    · have := h3 k h'
      omega
  · rintro k (hk | hk)
    · have := h2 k hk
      omega
    · exact hk.2
  · intro k hk
    have := h3 k hk
    omega
  · intro k hk
    obtain ⟨a1, a2, a3⟩ := h4 k hk
    refine ⟨by omega, ?_, a3⟩
    rintro (h | h)
    · exact a2 h
    · omega
  · have hz : ∀ k, (k < w'.heap.size ∧ ¬ (A0 k ∨ (w.heap.size ≤ k ∧ k < w'.heap.size))) → k < w.heap.size ∧ ¬ A0 k := by
      rintro k ⟨k1, k2⟩
      refine ⟨?_, fun h => k2 (Or.inl h)⟩
      rcases Nat.lt_or_ge k w.heap.size with h | h
      · exact h
      · exact absurd (Or.inr ⟨h, k1⟩) k2
    obtain ⟨pv, p1, p2, p3⟩ := g4
    exact ⟨g1.less fun k hk => hk.elim (fun h => Or.inl (hz k h)) Or.inr, g2, fun h => g3 (hz _ h), ⟨pv, p1, p2, fun g hg h => p3 g hg (hz _ h)⟩, ⟨Nat.le_refl _, fun _ _ => rfl⟩, IntK.refl _, fun k hk => hk.1⟩
  · exact h6.stay ⟨hs, fun k hk => g5.2 k ⟨h3 k hk, fun h => h1 k h hk⟩⟩ g6 hW
/-- Nothing has moved. -/
theorem Two.keep (h : Two E A0 A1 W w C0 C1 c0 c1 d wy0 wy1) (hk : Kept w w') : Two E A0 A1 W w' C0 C1 c0 c1 d wy0 wy1 := by
  obtain ⟨h1, h2, h3, h4, h5, h6⟩ := h
  have hs := hk.size
  have hW : Kept W w' := gtrans h5.kept hk
  exact ⟨h1, fun k h => by have := h2 k h; omega, fun k h => by have := h3 k h; omega, fun k h => ⟨by have := (h4 k h).1; omega, (h4 k h).2⟩, h5.stay ⟨hs, fun k h => hk.2.2.2.2 k (h2 k h)⟩ (kept_intK hk) hW, h6.stay ⟨hs, fun k h => hk.2.2.2.2 k (h3 k h)⟩ (kept_intK hk) hW⟩
/-- Both begin. -/
theorem two_of {W w7 w8 : World} {b bp br : Nat} (hC : TwoC W w7 b bp C0 C1) (hR : TwoR w7 w8 d br c0 c1) : ∃ A0 A1, Two (fun k => k = bp ∨ k = br) A0 A1 W w8 C0 C1 c0 c1 d [(b, 0, 0)] [(b, 0, 0)] ∧ w8.heap[bp]? = some (.cells #[.pointer (some ⟨C0, 0, none⟩), .pointer (some ⟨C1, 0, none⟩)] 37 (0, 0)) ∧ w8.heap[br]? = some (.cells #[.pointer (some ⟨c0, 0, none⟩), .pointer (some ⟨c1, 0, none⟩)] 43 (0, 0)) := by
  obtain ⟨k1, A0, A1, a1, a2, a3, a4, a5, a6, q0, q1, hb⟩ := hC
  obtain ⟨k2, b1, b2, b3, b4, b5, b6, r0, r1, hr⟩ := hR
  have hs := k2.size
  have hs1 := k1.size
  have l0 := r0.cells.2.2.2
  have l1 := r1.cells.2.2.2
  have hbl := (Array.getElem?_eq_some_iff.1 hb).1
  have hrl := (Array.getElem?_eq_some_iff.1 hr).1
  have hC0 := q0.ltC
  have hC1 := q1.ltC
  have mk : ∀ (A : Nat → Prop) (C c : Nat), (∀ k, A k → W.heap.size ≤ k ∧ k < w7.heap.size) → CurZ (fun k => ¬ A k) W w7 C [(b, 0, 0)] → RCur w8 c d (.slice none 0 0) → w7.heap.size ≤ c → Mid (fun k => k < w8.heap.size ∧ ¬ (A k ∨ k = c)) W w8 w8 C c d [(b, 0, 0)] (pathW [(b, 0, 0)]) := by
    intro A C c hA hZ hc hcl
    refine ⟨hZ.more k2 ?_, by omega, fun h => h.2 (Or.inr rfl), ⟨_, hc, PathRd.nil _, fun g hg => by simp [Value.ownBlock] at hg⟩, ⟨Nat.le_refl _, fun _ _ => rfl⟩, IntK.refl _, fun k hk => hk.1⟩
    rintro k (h | h)
    · exact Or.inl fun h' => h.2 (Or.inl h')
    · exact Or.inr (Or.inr (by omega))
  refine ⟨fun k => A0 k ∨ k = c0, fun k => A1 k ∨ k = c1, ⟨?_, ?_, ?_, ?_, mk A0 C0 c0 a2 q0 r0 b2, mk A1 C1 c1 a3 q1 r1 b3⟩, (k2.2.2.2.2 bp hbl).trans hb, hr⟩
  · rintro k (h | h) (h' | h')
    · exact a1 k h h'
    · have := (a2 k h).2
      omega
    · have := (a3 k h').2
      omega
    · omega
  · rintro k (h | h)
    · have := (a2 k h).2
      omega
    · omega
  · rintro k (h | h)
    · have := (a3 k h).2
      omega
    · omega
  · rintro k (rfl | rfl)
    · refine ⟨by omega, ?_, ?_⟩
      · rintro (h | h)
        · exact a4 h
        · omega
      · rintro (h | h)
        · exact a5 h
        · omega
    · refine ⟨hrl, ?_, ?_⟩
      · rintro (h | h)
        · have := (a2 k h).2
          omega
        · omega
      · rintro (h | h)
        · have := (a3 k h).2
          omega
        · omega
end

end Tr
end Ex
end Go.Proofs.Ythpampfbmpdmoaa
namespace Go.Proofs.Ythpampfbmpdmoaa
open Go.RowKit
namespace Ex
namespace Tr

/-- The law's state: two cursors of each side, in two arrays. -/
def LawI (P : List Nat) (N : Nat → Nd) (X : Nat → Rd) (W wr : World) (bp br C0 C1 c0 c1 d : Nat) : Prop := ∃ A0 A1 wy0 wy1, PathOk (fun b => b ∈ P) N (btw P X d) wy0 ∧ PathOk (fun b => b ∈ P) N (btw P X d) wy1 ∧ Two (fun k => k = bp ∨ k = br) A0 A1 W wr C0 C1 c0 c1 d wy0 wy1 ∧ wr.heap[bp]? = some (.cells #[.pointer (some ⟨C0, 0, none⟩), .pointer (some ⟨C1, 0, none⟩)] 37 (0, 0)) ∧ wr.heap[br]? = some (.cells #[.pointer (some ⟨c0, 0, none⟩), .pointer (some ⟨c1, 0, none⟩)] 43 (0, 0))
section
variable {P Q : List Nat} {N : Nat → Nd} {X : Nat → Rd} {B : Nat} {W w wr w' : World} {bp br C0 C1 c0 c1 d : Nat}
theorem LawI.kept (h : LawI P N X W wr bp br C0 C1 c0 c1 d) : Kept W wr := by
  obtain ⟨A0, A1, wy0, wy1, _, _, h, _⟩ := h
  exact h.2.2.2.2.1.kept
theorem LawI.keep (h : LawI P N X W wr bp br C0 C1 c0 c1 d) (hk : Kept wr w') : LawI P N X W w' bp br C0 C1 c0 c1 d := by
  obtain ⟨A0, A1, wy0, wy1, h1, h2, h3, h4, h5⟩ := h
  exact ⟨A0, A1, wy0, wy1, h1, h2, h3.keep hk, (hk.2.2.2.2 bp (Array.getElem?_eq_some_iff.1 h4).1).trans h4, (hk.2.2.2.2 br (Array.getElem?_eq_some_iff.1 h5).1).trans h5⟩
theorem LawI.cells (h : LawI P N X W wr bp br C0 C1 c0 c1 d) : wr.cell? ⟨bp, 0, none⟩ = some (.pointer (some ⟨C0, 0, none⟩)) ∧ wr.cell? ⟨bp, 1, none⟩ = some (.pointer (some ⟨C1, 0, none⟩)) ∧ wr.cell? ⟨br, 0, none⟩ = some (.pointer (some ⟨c0, 0, none⟩)) ∧ wr.cell? ⟨br, 1, none⟩ = some (.pointer (some ⟨c1, 0, none⟩)) := by
  obtain ⟨A0, A1, wy0, wy1, _, _, _, h4, h5⟩ := h
  refine ⟨?_, ?_, ?_, ?_⟩ <;> simp [World.cell?, h4, h5]
theorem LawI.moved0 (h : LawI P N X W w bp br C0 C1 c0 c1 d) (hG : Grd P Q N X B W d) (wh k a : Int) (ha1 : -9223372036854775808 ≤ a) (ha2 : a ≤ 9223372036854775807) : Calls Try.prog 8 #[.pointer (some ⟨C0, 0, none⟩), .pointer (some ⟨c0, 0, none⟩), .agg #[.int .i64 wh, .int .i64 k, .int .i64 a]] w fun e w' => e = .returned (.bool true) ∧ LawI P N X W w' bp br C0 C1 c0 c1 d := by
  obtain ⟨A0, A1, wy0, wy1, h1, h2, h3, h4, h5⟩ := h
  refine (moved_is hG h1 h3.2.2.2.2.1 wh k a ha1 ha2).mono ?_
  rintro e w' ⟨rfl, wy, g1, g2⟩
  obtain ⟨A, g3, g4⟩ := h3.move g2
  exact ⟨rfl, A, A1, wy, wy1, g1, h2, g3, (g4.2 bp (Or.inl rfl)).trans h4, (g4.2 br (Or.inr rfl)).trans h5⟩
theorem LawI.moved1 (h : LawI P N X W w bp br C0 C1 c0 c1 d) (hG : Grd P Q N X B W d) (wh k a : Int) (ha1 : -9223372036854775808 ≤ a) (ha2 : a ≤ 9223372036854775807) : Calls Try.prog 8 #[.pointer (some ⟨C1, 0, none⟩), .pointer (some ⟨c1, 0, none⟩), .agg #[.int .i64 wh, .int .i64 k, .int .i64 a]] w fun e w' => e = .returned (.bool true) ∧ LawI P N X W w' bp br C0 C1 c0 c1 d := by
  obtain ⟨A0, A1, wy0, wy1, h1, h2, h3, h4, h5⟩ := h
  refine (moved_is hG h2 h3.2.2.2.2.2 wh k a ha1 ha2).mono ?_
  rintro e w' ⟨rfl, wy, g1, g2⟩
  obtain ⟨A, g3, g4⟩ := h3.swap.move g2
  exact ⟨rfl, A0, A, wy0, wy, h1, g1, g3.swap, (g4.2 bp (Or.inl rfl)).trans h4, (g4.2 br (Or.inr rfl)).trans h5⟩
/-- What a pair of cursors answers. -/
def LookI (P : List Nat) (X : Nat → Rd) (wr : World) (C c : Nat) : Prop := ∃ (dn at_ : Nat) (pv : Value) (p : List Nat) (i : Nat),
  (∀ V, Kept wr V → Calls Try.prog 9 #[.pointer (some ⟨c, 0, none⟩)] V fun e w' => e = .returned (.agg #[.pointer (some ⟨dn, 0, none⟩), .int .i64 (at_ : Int), pv]) ∧ Kept V w') ∧
  (∀ V, Kept wr V → Calls Try.prog 10 #[.pointer (some ⟨C, 0, none⟩)] V fun e w' => e = .returned (.pointer (some ⟨btw P X dn, 0, none⟩)) ∧ Kept V w') ∧
  (∀ V, Kept wr V → Calls Try.prog 11 #[.pointer (some ⟨C, 0, none⟩)] V fun e w' => e = .returned (.int .i64 (at_ : Int)) ∧ Kept V w') ∧
  (∀ V, Kept wr V → Calls Try.prog 13 #[.pointer (some ⟨C, 0, none⟩)] V fun e w' => (∃ v, e = .returned v ∧ PathRd w' v p) ∧ Kept V w') ∧
  PathRd wr pv p ∧ wr.cell? ⟨dn, 1, none⟩ = some (.int .i64 (i : Int)) ∧ P[i]? = some (btw P X dn)
theorem CurZ.pathW {Z : Nat → Prop} {C : Nat} {wy : List (Nat × Nat × Nat)} (h : CurZ Z W w C wy) (hne : wy ≠ []) (hl : wy.length ≤ 4194304) : Calls Try.prog 13 #[.pointer (some ⟨C, 0, none⟩)] w fun e w' => (∃ v, e = .returned v ∧ PathRd w' v (pathW wy)) ∧ Kept w w' := by
  cases wy with
  | nil => exact absurd rfl hne
  | cons q pre => exact h.path (by simp at hl; omega)
theorem look_of {Z : Nat → Prop} {C c : Nat} {wy : List (Nat × Nat × Nat)} (hG : Grd P Q N X B W d) (hP : PathOk (fun b => b ∈ P) N (btw P X d) wy) (h : Mid Z W w wr C c d wy (Tr.pathW wy)) : LookI P X wr C c := by
  have hlen := hG.len hP
  rcases List.eq_nil_or_concat wy with rfl | ⟨pre, q, rfl⟩
  · exact absurd rfl hlen.2
  rw [List.concat_eq_append] at hP h hlen
  obtain ⟨hv, dn, hdQ, hdb, hf, _⟩ := hG.way hP
  have hpl : pre.length ≤ 4194304 := by have := hlen.1; simp at this; omega
  obtain ⟨s0, s1, m0, m1, hT⟩ := hG.fT
  obtain ⟨_, _, _, _, _, _, _, _, _, i, _, hiP, hpl2⟩ := twin_of hT hdQ
  obtain ⟨pv, g1, g2, _⟩ := h.2.2.2.1
  have hk := h.kept
  obtain ⟨r1, r2⟩ := hG.keep hk
  have hI : RIs wr dn (X dn) := ⟨0, B, (r1 dn hdQ).1⟩
  obtain ⟨_, c1, _⟩ := hI.cells
  rw [hpl2] at c1
  refine ⟨dn, q.2.1, pv, _, i, fun V hV => ?_, fun V hV => ?_, fun V hV => ?_, fun V hV => ?_, g2, c1, hiP⟩
  · obtain ⟨r3, r4⟩ := hG.keep (gtrans hk hV)
    have h1 := rspot_is c d _ pv V r3 r4 hG.fd hv ((hV.2.2.2.2 c g1.cells.2.2.2).trans g1) (g2.keep hV) hG.wd
    rw [hf] at h1
    exact h1
  · rw [hdb]
    exact (h.1.keep hV).toP.node hpl
  · exact (h.1.keep hV).toP.offset hpl
  · exact (h.1.keep hV).pathW hlen.2 hlen.1
theorem LawI.look (h : LawI P N X W wr bp br C0 C1 c0 c1 d) (hG : Grd P Q N X B W d) : LookI P X wr C0 c0 ∧ LookI P X wr C1 c1 := by
  obtain ⟨A0, A1, wy0, wy1, h1, h2, h3, h4, h5⟩ := h
  exact ⟨look_of hG h1 h3.2.2.2.2.1, look_of hG h2 h3.2.2.2.2.2⟩
end

end Tr
end Ex
end Go.Proofs.Ythpampfbmpdmoaa
