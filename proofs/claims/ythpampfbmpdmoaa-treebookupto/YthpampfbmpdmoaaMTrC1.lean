import Derived.Test.YthpampfbmpdmoaaTrV2
import Derived.Test.YthpampfbmpdmoaaTrCu2
import Derived.Test.YthpampfbmpdmoaaTrV3
import Derived.Test.YthpampfbmpdmoaaTrTo2
import Derived.Test.YthpampfbmpdmoaaTrCur
namespace Go.Proofs.Ythpampfbmpdmoaa
open Go.RowKit
attribute [local go_sem] Oper.semAt_some
namespace Ex
namespace Tr

/-- The document's cursor in block cb. -/
def RCur (w : World) (cb top : Nat) (pv : Value) : Prop := w.heap[cb]? = some (.cells #[.pointer (some ⟨top, 0, none⟩), pv] 42 (0, 0))
theorem RCur.cells {w : World} {cb top : Nat} {pv : Value} (h : RCur w cb top pv) : w.cell? ⟨cb, 0, none⟩ = some (.pointer (some ⟨top, 0, none⟩)) ∧ w.cell? ⟨cb, 1, none⟩ = some pv ∧ w.frozen? ⟨cb, 1, none⟩ = false ∧ cb < w.heap.size := by
  unfold RCur at h
  exact ⟨by simp [World.cell?, h], by simp [World.cell?, h], by simp [World.frozen?, h], (Array.getElem?_eq_some_iff.1 h).1⟩
theorem RCur.set {w : World} {cb top : Nat} {pv : Value} (h : RCur w cb top pv) (qv : Value) : RCur (w.setCell ⟨cb, 1, none⟩ qv) cb top qv := by
  unfold RCur at h ⊢
  have hl := (Array.getElem?_eq_some_iff.1 h).1
  have he := Option.some.inj ((Array.getElem?_eq_getElem hl).symm.trans h)
  simp [World.setCell, Array.getElem_modify, hl, he]
theorem PathRd.pop {w : World} {g cap n : Nat} {p : List Nat} {x : Nat} (h : PathRd w (.slice (some ⟨g, 0, none⟩) n cap) (p ++ [x])) : PathRd w (.slice (some ⟨g, 0, none⟩) p.length cap) p := by
  rcases h with ⟨h0, _⟩ | ⟨g', cap', cur, e, h1, h2, h3, h4⟩
  · cases h0
  · injection e with e1 e2 e3
    injection e1 with e1
    injection e1 with e1
    subst e1 e3
    rw [List.length_append] at h1 h2 h4
    refine Or.inr ⟨g, cap, cur, rfl, by simp at h1; omega, by simp at h2; omega, h3, ?_⟩
    have h5 := congrArg (List.take p.length) h4
    rw [List.take_take] at h5
    simp only [List.length_cons, List.length_nil] at h5
    rw [Nat.min_eq_left (by omega)] at h5
    rw [h5]
    unfold flatI
    rw [List.map_append, List.take_append_of_le_length (by simp), List.take_of_length_le (by simp)]
section
variable {w : World}
set_option linter.unusedSimpArgs false
set_option maxRecDepth 100000
set_option maxHeartbeats 2000000
theorem rup_no (cb top : Nat) (a : Option Addr) (c : Nat) (h : RCur w cb top (.slice a 0 c)) : Calls Try.prog 24 #[.pointer (some ⟨cb, 0, none⟩)] w fun e w' => e = .returned (.bool false) ∧ w' = w := by
  obtain ⟨_, c1, _, hl⟩ := h.cells
  clear h
  go_enter Try.func24, Try.ntmps24
  go_wp2_with fail
  go_ret
  exact ⟨rfl, rfl⟩
theorem rup_yes (cb top g m cap : Nat) (h : RCur w cb top (.slice (some ⟨g, 0, none⟩) (m + 1) cap)) (hm : m ≤ 4194304) (hcap : m + 1 ≤ cap) : Calls Try.prog 24 #[.pointer (some ⟨cb, 0, none⟩)] w fun e w' => e = .returned (.bool true) ∧ KeptBut cb w w' ∧ RCur w' cb top (.slice (some ⟨g, 0, none⟩) m cap) := by
  have HC := hide1 h
  obtain ⟨_, c1, z1, hl⟩ := h.cells
  have hmI : (m : Int) ≤ 4194304 := by omega
  have hcI : (m : Int) ≤ (cap : Int) := by omega
  have hne : (((m : Int) + 1) == 0) = false := by simp; omega
  clear h
  go_enter Try.func24, Try.ntmps24
  go_upto_region 3 with fail
  go_region
  go_wp2_with fail
  go_ret
  exact ⟨rfl, KeptBut.drew (setCell_but _ _ _ _), (show RCur (w.setCell ⟨cb, 1, none⟩ (.slice (some ⟨g, 0, none⟩) m cap)) cb top _ from HC.out.set _)⟩
end

end Tr
end Ex
end Go.Proofs.Ythpampfbmpdmoaa
namespace Go.Proofs.Ythpampfbmpdmoaa
open Go.RowKit
namespace Ex
namespace Tr

/-- Where a path leads, and at which place. -/
def fnd (X : Nat → Rd) (wd : Nat → Nat) : List Nat → Nat → Nat → Nat × Nat
  | [], d, a => (d, a)
  | i :: p, d, a => fnd X wd p ((X d).kids.getD i 0) (a + sumF wd ((X d).kids.take i))
/-- A path that leads to a node. -/
def Val (X : Nat → Rd) : List Nat → Nat → Prop
  | [], _ => True
  | i :: p, d => i < (X d).kids.length ∧ Val X p ((X d).kids.getD i 0)
section
variable {X : Nat → Rd} {wd : Nat → Nat}
theorem fnd_snoc (i : Nat) : ∀ (p : List Nat) (d a : Nat), fnd X wd (p ++ [i]) d a = ((X (fnd X wd p d a).1).kids.getD i 0, (fnd X wd p d a).2 + sumF wd ((X (fnd X wd p d a).1).kids.take i))
  | [], d, a => rfl
  | j :: p, d, a => by
    rw [List.cons_append, fnd, fnd]
    exact fnd_snoc i p _ _
theorem fnd_shift : ∀ (p : List Nat) (d a a' : Nat), (fnd X wd p d a).1 = (fnd X wd p d a').1
  | [], _, _, _ => rfl
  | i :: p, d, a, a' => by rw [fnd, fnd]; exact fnd_shift p _ _ _
theorem val_snoc (i : Nat) : ∀ (p : List Nat) (d a : Nat), Val X (p ++ [i]) d ↔ Val X p d ∧ i < (X (fnd X wd p d a).1).kids.length
  | [], d, a => by simp [Val, fnd]
  | j :: p, d, a => by
    rw [List.cons_append, Val, Val, fnd, val_snoc i p _ (a + sumF wd ((X d).kids.take j))]
    exact and_assoc.symm
theorem val_take : ∀ (p : List Nat) (d k : Nat), Val X p d → Val X (p.take k) d
  | [], d, k, h => by simpa using h
  | i :: p, d, 0, h => trivial
  | i :: p, d, k + 1, h => ⟨h.1, val_take p _ k h.2⟩
end
section
variable {R : Nat → Prop} {X : Nat → Rd} {wd : Nat → Nat} {B : Nat} {w : World}
theorem getD_mem {l : List Nat} {i : Nat} (h : i < l.length) : l.getD i 0 ∈ l := by
  rw [List.getD_eq_getElem?_getD, List.getElem?_eq_getElem h]
  exact List.getElem_mem h
theorem getD_get {l : List Nat} {i : Nat} (h : i < l.length) : l[i]? = some (l.getD i 0) := by
  rw [List.getD_eq_getElem?_getD, List.getElem?_eq_getElem h]
  rfl
theorem fnd_R (hF : RFor R X wd B w) : ∀ (p : List Nat) (d a : Nat), R d → Val X p d → R (fnd X wd p d a).1
  | [], _, _, h, _ => h
  | _ :: p, d, _, h, hv => fnd_R hF p _ _ ((hF d h).2.1 _ (getD_mem hv.1)) hv.2
theorem kids_wd (hF : RFor R X wd B w) {d i : Nat} (hd : R d) (hi : i < (X d).kids.length) : sumF wd ((X d).kids.take i) + wd ((X d).kids.getD i 0) ≤ wd d := by
  have hk : (X d).kind ≠ 1 := fun e => by
    have := ((hF d hd).2.2.2.1 e).2
    rw [this] at hi
    simp at hi
  rw [(hF d hd).2.2.2.2.1 hk, ← sumF_take (f := wd) (getD_get hi)]
  exact sumF_part _ _ _
/-- A path's node lies within. -/
theorem fnd_in (hF : RFor R X wd B w) : ∀ (p : List Nat) (d a : Nat), R d → Val X p d → a ≤ (fnd X wd p d a).2 ∧ (fnd X wd p d a).2 + wd (fnd X wd p d a).1 ≤ a + wd d
  | [], d, a, _, _ => ⟨Nat.le_refl _, Nat.le_refl _⟩
  | i :: p, d, a, h, hv => by
    obtain ⟨h1, h2⟩ := fnd_in hF p _ (a + sumF wd ((X d).kids.take i)) ((hF d h).2.1 _ (getD_mem hv.1)) hv.2
    have h3 := kids_wd hF h hv.1
    rw [fnd]
    omega
theorem fnd_size (hF : RFor R X wd B w) : ∀ (p : List Nat) (d a : Nat), R d → Val X p d → p.length + (X (fnd X wd p d a).1).size ≤ (X d).size
  | [], d, a, _, _ => by simp [fnd]
  | i :: p, d, a, h, hv => by
    have h1 := fnd_size hF p _ (a + sumF wd ((X d).kids.take i)) ((hF d h).2.1 _ (getD_mem hv.1)) hv.2
    have h2 := sizeR_mem (X := X) (getD_mem hv.1)
    have h3 := (hF d h).2.2.1
    rw [fnd, List.length_cons]
    omega
theorem sumF_mono (f : Nat → Nat) (ks : List Nat) {i j : Nat} (h : i ≤ j) : sumF f (ks.take i) ≤ sumF f (ks.take j) := by
  have := sumF_part f (ks.take j) i
  rwa [List.take_take, Nat.min_eq_left h] at this
/-- Two leaves that hold a place are one. -/
theorem fnd_one (hF : RFor R X wd B w) (x : Nat) : ∀ (p p' : List Nat) (d a : Nat), R d → Val X p d → Val X p' d → (X (fnd X wd p d a).1).kids = [] → (X (fnd X wd p' d a).1).kids = [] → (fnd X wd p d a).2 ≤ x → x < (fnd X wd p d a).2 + wd (fnd X wd p d a).1 → (fnd X wd p' d a).2 ≤ x → x < (fnd X wd p' d a).2 + wd (fnd X wd p' d a).1 → p = p'
  | [], [], _, _, _, _, _, _, _, _, _, _, _ => rfl
  | [], i :: p', d, a, _, _, hv, h0, _, _, _, _, _ => by
    have := hv.1
    rw [show (X d).kids = [] from h0] at this
    simp at this
  | i :: p, [], d, a, _, hv, _, _, h0, _, _, _, _ => by
    have := hv.1
    rw [show (X d).kids = [] from h0] at this
    simp at this
  | i :: p, j :: p', d, a, hd, hv, hv', h0, h0', h1, h2, h3, h4 => by
    rw [fnd] at h0 h1 h2
    rw [fnd] at h0' h3 h4
    have hi := (hF d hd).2.1 _ (getD_mem hv.1)
    have hj := (hF d hd).2.1 _ (getD_mem hv'.1)
    have a1 := fnd_in hF p _ (a + sumF wd ((X d).kids.take i)) hi hv.2
    have a2 := fnd_in hF p' _ (a + sumF wd ((X d).kids.take j)) hj hv'.2
    have b1 := sumF_take (f := wd) (getD_get hv.1)
    have b2 := sumF_take (f := wd) (getD_get hv'.1)
    have e : i = j := by
      rcases Nat.lt_trichotomy i j with h | h | h
      · have := sumF_mono wd (X d).kids (show i + 1 ≤ j from h)
        omega
      · exact h
      · have := sumF_mono wd (X d).kids (show j + 1 ≤ i from h)
        omega
    subst e
    rw [fnd_one hF x p p' _ _ hi hv.2 hv'.2 h0 h0' h1 h2 h3 h4]
/-- Every path is walked. -/
theorem wk_has (hF : RFor R X wd B w) : ∀ (n : Nat) (ps : List (Nat × Nat × List Nat)), szK X ps = n → (∀ q ∈ ps, R q.1) → ∀ q ∈ ps, ∀ p, Val X p q.1 → ((fnd X wd p q.1 q.2.1).1, (fnd X wd p q.1 q.2.1).2, q.2.2 ++ p) ∈ wk X wd (szK X ps) ps := by
  intro n
  induction n using Nat.strongRecOn with
  | ind n ih =>
    intro ps hn hR q hq p hp
    cases ps with
    | nil => cases hq
    | cons q0 ps =>
      have hq0 := hR q0 List.mem_cons_self
      have hsz := (hF q0.1 hq0).2.2.1
      rw [wk_step hF hq0]
      have hlt : szK X (kidsK wd (X q0.1).kids 0 q0.2.1 q0.2.2 ++ ps) < n := by rw [← hn, szK_cons, szK_app, szK_kids]; omega
      have hR' : ∀ s ∈ kidsK wd (X q0.1).kids 0 q0.2.1 q0.2.2 ++ ps, R s.1 := by
        intro s hs
        rcases List.mem_append.1 hs with hs | hs
        · exact kidsK_R hF hq0 s hs
        · exact hR s (List.mem_cons_of_mem _ hs)
      rcases List.mem_cons.1 hq with rfl | hq'
      · cases p with
        | nil => rw [List.append_nil]; exact List.mem_cons_self
        | cons i p =>
          refine List.mem_cons_of_mem _ ?_
          have h1 := kidsK_at wd (X q.1).kids 0 q.2.1 q.2.2 i _ (getD_get hp.1)
          rw [Nat.zero_add] at h1
          have h2 := ih _ hlt _ rfl hR' _ (List.mem_append_left _ (List.mem_of_getElem? h1)) p hp.2
          rw [List.append_assoc] at h2
          exact h2
      · exact List.mem_cons_of_mem _ (ih _ hlt _ rfl hR' q (List.mem_append_right _ hq') p hp)
/-- All that is walked has a path. -/
theorem wk_val : ∀ (f : Nat) (ps : List (Nat × Nat × List Nat)), ∀ s ∈ wk X wd f ps, ∃ q ∈ ps, ∃ p, Val X p q.1 ∧ s = ((fnd X wd p q.1 q.2.1).1, (fnd X wd p q.1 q.2.1).2, q.2.2 ++ p)
  | 0, _, s, h => by simp [wk] at h
  | _ + 1, [], s, h => by simp [wk] at h
  | f + 1, q :: ps, s, h => by
    simp only [wk, List.mem_cons] at h
    rcases h with rfl | h
    · exact ⟨s, List.mem_cons_self, [], trivial, by simp [fnd]⟩
    · obtain ⟨q', hq', p, hp, e⟩ := wk_val f _ s h
      rcases List.mem_append.1 hq' with hk | hk
      · obtain ⟨i, hi⟩ := List.getElem?_of_mem hk
        have hil := (List.getElem?_eq_some_iff.1 hi).1
        rw [kidsK_len] at hil
        have h1 := kidsK_at wd (X q.1).kids 0 q.2.1 q.2.2 i _ (getD_get hil)
        rw [Nat.zero_add] at h1
        rw [h1] at hi
        injection hi with hi
        subst hi
        exact ⟨q, List.mem_cons_self, i :: p, ⟨hil, hp⟩, by rw [e, List.append_assoc]; rfl⟩
      · exact ⟨q', List.mem_cons_of_mem _ hk, p, hp, e⟩
end
/-- The path of a way. -/
def pathW (wy : List (Nat × Nat × Nat)) : List Nat := wy.tail.map fun q => q.2.2
theorem pathW_snoc (pre : List (Nat × Nat × Nat)) (q : Nat × Nat × Nat) (h : pre ≠ []) : pathW (pre ++ [q]) = pathW pre ++ [q.2.2] := by
  cases pre with
  | nil => exact absurd rfl h
  | cons a l => simp [pathW]
theorem pathW_len (pre : List (Nat × Nat × Nat)) : (pathW pre).length = pre.length - 1 := by simp [pathW]
/-- The document's node where a way ends. -/
theorem way_fnd {s0 s1 m0 m1 : Nat} {P Q : List Nat} {N : Nat → Nd} {X : Nat → Rd} (hT : TwinOk s0 s1 m0 m1 P Q N X) (hW : FWid (fun b => b ∈ P) N) {d0 : Nat} (hd : d0 ∈ Q) : ∀ (n : Nat) (pre : List (Nat × Nat × Nat)) (q : Nat × Nat × Nat), pre.length = n → PathOk (fun b => b ∈ P) N (btw P X d0) (pre ++ [q]) →
    Val X (pathW (pre ++ [q])) d0 ∧ ∃ d, d ∈ Q ∧ btw P X d = q.1 ∧ fnd X (fun d => (N (btw P X d)).width) (pathW (pre ++ [q])) d0 0 = (d, q.2.1) := by
  intro n
  induction n with
  | zero =>
    intro pre q hn hP
    have e : pre = [] := List.length_eq_zero_iff.1 hn
    subst e
    have e : q = (btw P X d0, 0, 0) := by have := hP.1; simpa using this
    subst e
    exact ⟨trivial, d0, hd, rfl, rfl⟩
  | succ n ih =>
    intro pre q hn hP
    rcases List.eq_nil_or_concat pre with rfl | ⟨pre', p, rfl⟩
    · simp at hn
    · rw [List.concat_eq_append] at hn hP ⊢
      have hne : pre' ++ [p] ≠ [] := by simp
      obtain ⟨g1, d, hdQ, hdb, g2⟩ := ih pre' p (by simpa using hn) (hP.front hne)
      obtain ⟨k, k1, k2, k3⟩ := hP.2.2 pre'.length p q (by simp) (by simp)
      obtain ⟨_, h2, _, _, _, h6, _⟩ := twin_of hT hdQ
      have hpP : p.1 ∈ P := hP.2.1 p (by simp)
      have ka := hW.at hpP k1
      rw [← hdb, h2] at ka
      obtain ⟨x, hx, hxb⟩ := Option.map_eq_some_iff.1 ((List.getElem?_map ..).symm.trans ka.1)
      have hxl := (List.getElem?_eq_some_iff.1 hx).1
      rw [pathW_snoc _ _ hne]
      refine ⟨(val_snoc (wd := fun d => (N (btw P X d)).width) q.2.2 _ d0 0).2 ⟨g1, by rw [g2]; exact hxl⟩, x, h6 x (List.mem_of_getElem? hx), hxb.trans k2.symm, ?_⟩
      rw [fnd_snoc, g2]
      show ((X d).kids.getD q.2.2 0, p.2.1 + sumF (fun d => (N (btw P X d)).width) ((X d).kids.take q.2.2)) = (x, q.2.1)
      have e1 : (X d).kids.getD q.2.2 0 = x := by rw [List.getD_eq_getElem?_getD, hx]; rfl
      rw [e1, k3, ka.2]
      unfold widthS sumF
      rw [← List.map_take, List.map_map]
      rfl

end Tr
end Ex
end Go.Proofs.Ythpampfbmpdmoaa
namespace Go.Proofs.Ythpampfbmpdmoaa
open Go.RowKit
attribute [local go_sem] Oper.semAt_some
namespace Ex
namespace Tr

/-- While Find goes: the result's cell A, and the spot in bx. -/
def FnI (w : World) (A bx : Nat) (wr : World) (d : Nat) (a : Nat) (pv : Value) : Prop := Kept w wr ∧ wr.heap[A]? = some (.cells #[.pointer none, .int .i64 0, .slice none 0 0] 48 (0, 0)) ∧ wr.heap[bx]? = some (.cells #[.pointer (some ⟨d, 0, none⟩), .int .i64 (a : Int), pv] 48 (0, 0)) ∧ A = w.heap.size ∧ bx = A + 1
section
variable {w wr : World} {A bx d a : Nat} {pv : Value}
theorem FnI.cells (h : FnI w A bx wr d a pv) : wr.cell? ⟨bx, 0, none⟩ = some (.pointer (some ⟨d, 0, none⟩)) ∧ wr.cell? ⟨bx, 1, none⟩ = some (.int .i64 (a : Int)) ∧ wr.frozen? ⟨bx, 0, none⟩ = false ∧ wr.frozen? ⟨bx, 1, none⟩ = false := by
  obtain ⟨_, _, h, _⟩ := h
  refine ⟨?_, ?_, ?_, ?_⟩ <;> simp [World.cell?, World.frozen?, h]
theorem FnI.keep {W : World} (h : FnI w A bx wr d a pv) (hk : Kept wr W) : FnI w A bx W d a pv := by
  obtain ⟨h1, h2, h3, h4⟩ := h
  exact ⟨gtrans h1 hk, (hk.2.2.2.2 A (Array.getElem?_eq_some_iff.1 h2).1).trans h2, (hk.2.2.2.2 bx (Array.getElem?_eq_some_iff.1 h3).1).trans h3, h4⟩
theorem FnI.set1 (h : FnI w A bx wr d a pv) (a' : Nat) {v : Int} (hv : v = (a' : Int)) : FnI w A bx (wr.setCell ⟨bx, 1, none⟩ (.int .i64 v)) d a' pv := by
  subst hv
  obtain ⟨h1, h2, h3, h4, h5⟩ := h
  refine ⟨KeptBut.new h1 (setCell_but _ _ _ _) (by omega), (Below.heap_setCell _ _ _ _ (show A ≠ bx by omega)).trans h2, ?_, h4, h5⟩
  have hl := (Array.getElem?_eq_some_iff.1 h3).1
  have he := Option.some.inj ((Array.getElem?_eq_getElem hl).symm.trans h3)
  simp [World.setCell, Array.getElem_modify, hl, he]
theorem FnI.set0 (h : FnI w A bx wr d a pv) (d' : Nat) : FnI w A bx (wr.setCell ⟨bx, 0, none⟩ (.pointer (some ⟨d', 0, none⟩))) d' a pv := by
  obtain ⟨h1, h2, h3, h4, h5⟩ := h
  refine ⟨KeptBut.new h1 (setCell_but _ _ _ _) (by omega), (Below.heap_setCell _ _ _ _ (show A ≠ bx by omega)).trans h2, ?_, h4, h5⟩
  have hl := (Array.getElem?_eq_some_iff.1 h3).1
  have he := Option.some.inj ((Array.getElem?_eq_getElem hl).symm.trans h3)
  simp [World.setCell, Array.getElem_modify, hl, he]
end
theorem spot_returns {fn : Func} {p : Tmp} (h : fn.results = #[.cell p 48]) (tmps : Array Value) (w : World) (g : Nat) (x0 x1 x2 : Value) (hp : tmps.getD p undef = .pointer (some ⟨g, 0, none⟩)) (hg : w.heap[g]? = some (.cells #[x0, x1, x2] 48 (0, 0))) :
    (results fn tmps).run Try.prog w = .ok (.agg #[x0, x1, x2]) w :=
  results_cell_row h tmps w g 48 _ (0, 0) _ hp hg Try.underlying48 rfl (by kernel_rfl)
set_option linter.unusedSimpArgs false in
set_option maxRecDepth 100000 in
set_option maxHeartbeats 4000000 in
theorem rfind_is {R : Nat → Prop} {X : Nat → Rd} {wd : Nat → Nat} {B : Nat} (d : Nat) (p : List Nat) (pv : Value) (w : World) (hF : RFor R X wd B w) (hB : B ≤ w.heap.size) (hd : R d) (hv : Val X p d) (hp : PathRd w pv p) (hwd : wd d ≤ 2305843009213693952) :
    Calls Try.prog 30 #[.pointer (some ⟨d, 0, none⟩), pv] w fun e w' => e = .returned (.agg #[.pointer (some ⟨(fnd X wd p d 0).1, 0, none⟩), .int .i64 ((fnd X wd p d 0).2 : Int), pv]) ∧ Kept w w' := by
  obtain ⟨pa, pc, rfl, hpc⟩ : ∃ pa pc, pv = .slice pa p.length pc ∧ ∀ (i n : Nat), p[i]? = some n → ∃ g, pa = some ⟨g, 0, none⟩ ∧ w.cell? ⟨g, i, none⟩ = some (.int .i64 (n : Int)) := by
    rcases hp.form with ⟨rfl, rfl⟩ | ⟨g, cap, rfl⟩
    · exact ⟨none, 0, rfl, fun i n h => by simp at h⟩
    · exact ⟨_, cap, rfl, fun i n h => ⟨g, rfl, hp.cells.2.2.2 i n h⟩⟩
  obtain ⟨n, hn⟩ : ∃ n, p.length = n := ⟨_, rfl⟩
  have HPC := hide1 hpc
  have HF := hide1 hF
  have HV := hide1 hv
  have HD := hide1 hd
  have HN := hide1 hn
  have hn4 : n ≤ 4194304 := by
    rw [← hn]
    have h1 := fnd_size hF p d 0 hd hv
    have h2 := (hF d hd).2.2.2.2.2.2
    omega
  have hnI : (n : Int) ≤ 4194304 := by omega
  have HB := hide1 hB
  have HWD := hide1 hwd
  rw [hn]
  clear hpc hF hv hd hn hp hB hwd
  go_enter Try.func30, Try.ntmps30
  go_upto_region 2 with fail
  obtain ⟨wA, hwA⟩ : ∃ wA, (w.alloc (.cells #[.pointer none, .int .i64 0, .slice none 0 0] 48)).alloc (.cells #[.pointer (some ⟨d, 0, none⟩), .int .i64 0, .slice pa n pc] 48) = wA := ⟨_, rfl⟩
  obtain ⟨A, hA⟩ : ∃ A, w.heap.size = A := ⟨_, rfl⟩
  obtain ⟨bx, hbx⟩ : ∃ bx, A + 1 = bx := ⟨_, rfl⟩
  have HI0 : Hid (FnI w A bx wA d 0 (.slice pa n pc)) := by
    have e : (w.alloc (.cells #[.pointer none, .int .i64 0, .slice none 0 0] 48)).heap.size = bx := by simp [hA, hbx]
    refine ⟨by rw [← hwA]; exact ((Kept.refl w).alloc _ _).alloc _ _, ?_, ?_, hA.symm, hbx.symm⟩
    · rw [← hwA, ← hA]
      exact (heap_alloc_old _ _ (by simp)).trans (World.alloc_heap_new w _)
    · rw [← hwA, ← e]
      exact World.alloc_heap_new _ _
  rw [hwA, hA, hbx]
  clear hwA hA hbx
  go_wp2_with fail
  go_loopw [6] (fun vk wr => ∃ k : Nat, k ≤ n ∧ vk = .int .i64 (k : Int) ∧ Hid (FnI w A bx wr (fnd X wd (p.take k) d 0).1 (fnd X wd (p.take k) d 0).2 (.slice pa n pc))) (fun vk _ => n - (intOf vk).toNat)
  case atStart => exact ⟨0, Nat.zero_le _, rfl, by rw [List.take_zero]; exact HI0⟩
  case round =>
    obtain ⟨k, hk, rfl, HI⟩ := hrel
    clear HI0
    by_cases hlt : k < n
    · obtain ⟨pk, hpk⟩ : ∃ pk, p[k]? = some pk := ⟨_, List.getElem?_eq_getElem (by have := HN.out; omega)⟩
      have HE : Hid (p.take (k + 1) = p.take k ++ [pk]) := by show _ = _; rw [List.take_add_one, hpk]; rfl
      have hvk : Val X (p.take k ++ [pk]) d := HE.out ▸ val_take p d (k + 1) HV.out
      obtain ⟨hv1, hpl⟩ := (val_snoc (wd := wd) pk (p.take k) d 0).1 hvk
      have hdk := fnd_R HF.out (p.take k) d 0 HD.out hv1
      have hbd := (fnd_in HF.out (p.take k) d 0 HD.out hv1).2
      have HFS := hide1 (fnd_snoc (X := X) (wd := wd) pk (p.take k) d 0)
      obtain ⟨gp, hgp, kp⟩ := HPC.out k pk hpk
      subst hgp
      obtain ⟨dk, hdke⟩ : ∃ dk, (fnd X wd (p.take k) d 0).1 = dk := ⟨_, rfl⟩
      obtain ⟨ak, hake⟩ : ∃ ak, (fnd X wd (p.take k) d 0).2 = ak := ⟨_, rfl⟩
      rw [hdke] at hpl hdk hbd
      rw [hake] at hbd
      rw [hdke, hake] at HI HFS
      have hwd := HWD.out
      have HIX : RIs w dk (X dk) := ⟨0, B, (HF.out dk hdk).1⟩
      obtain ⟨_, _, _, _, _, ka, ck, k8, hkl, hkc⟩ := HIX.more
      obtain ⟨gk, hgk, _⟩ := hkc pk _ (getD_get hpl)
      subst hgk
      have HKT : Hid (∀ i : Nat, i < (X dk).kids.length → w.cell? ⟨gk, i, none⟩ = some (.pointer (some ⟨(X dk).kids.getD i 0, 0, none⟩))) := fun i hi => by
        obtain ⟨g, e, h⟩ := hkc i _ (getD_get hi)
        injection e with e
        injection e with e
        rw [e]
        exact h
      obtain ⟨nk, hnk⟩ : ∃ nk, (X dk).kids.length = nk := ⟨_, rfl⟩
      have HNK := hide1 hnk
      rw [hnk] at k8 hkl hpl HKT
      have HRK := hide1 hdk
      have hkI : (k : Int) < (n : Int) := by omega
      have hplI : (pk : Int) < (nk : Int) := by omega
      have hklI : (nk : Int) ≤ 4194304 := by omega
      clear hpk hvk hv1 hdk hkc HIX hdke hake hnk
      have sp0 : wr.cell? ⟨gp, k, none⟩ = some (.int .i64 (pk : Int)) := grown_cell HI.out.1 kp
      go_wp2_with fail
      clear sp0
      go_loopw [7] (fun vi wq => ∃ i : Nat, i ≤ pk ∧ vi = .int .i64 (i : Int) ∧ Hid (FnI w A bx wq dk (ak + sumF wd ((X dk).kids.take i)) (.slice (some ⟨gp, 0, none⟩) n pc))) (fun vi _ => pk - (intOf vi).toNat)
      case atStart => exact ⟨0, Nat.zero_le _, rfl, by simpa [sumF] using HI⟩
      case round =>
        obtain ⟨i, hi, rfl, HJ⟩ := hrel
        clear HI
        have sp0 : wr.cell? ⟨gp, k, none⟩ = some (.int .i64 (pk : Int)) := grown_cell HJ.out.1 kp
        by_cases hik : i < pk
        · have hikI : (i : Int) < (pk : Int) := by omega
          have hinI : (i : Int) < (nk : Int) := by omega
          have kt := HKT.out i (by omega)
          have hil : i < (X dk).kids.length := by have := HNK.out; omega
          have HT : Hid (ak + sumF wd ((X dk).kids.take (i + 1)) = ak + sumF wd ((X dk).kids.take i) + wd ((X dk).kids.getD i 0)) := by
            show _ = _
            rw [sumF_take (f := wd) (getD_get hil)]
            omega
          have hkw := kids_wd HF.out HRK.out hil
          have hRk := (HF.out dk HRK.out).2.1 _ (getD_mem hil)
          obtain ⟨kd, hkd⟩ : ∃ kd, (X dk).kids.getD i 0 = kd := ⟨_, rfl⟩
          rw [hkd] at kt HT hkw hRk
          have HC : Hid (∀ m, Calls Try.prog 52 #[.pointer (some ⟨kd, 0, none⟩)] (wr.drewN m) fun e w' => e = .returned (.int .i64 (wd kd : Int)) ∧ ∃ m', w' = (wr.drewN m).drewN m') := fun m => rwidth_is _ kd _ (((HF.out.kb (HJ.out.1.kb HB.out))).drew m) hRk (Nat.le_refl _)
          obtain ⟨z1, hz1⟩ : ∃ z1, wd kd = z1 := ⟨_, rfl⟩
          obtain ⟨T0, hT0⟩ : ∃ T0, ak + sumF wd ((X dk).kids.take i) = T0 := ⟨_, rfl⟩
          rw [hz1] at HC HT hkw
          rw [hT0] at HJ HT
          have hTz : (T0 : Int) + (z1 : Int) ≤ 2305843009213693952 := by omega
          have hTw : IntKind.i64.wrap ((T0 : Int) + (z1 : Int)) = (T0 : Int) + (z1 : Int) := by rw [IntKind.wrap_i64]; omega
          clear hkd hz1 hT0 hkw hRk hil hbd hwd
          go_upto_region 8 with fail
          refine wp_region_held_drew (S := fun W => ∃ x, FnI w A bx W dk x (.slice (some ⟨gp, 0, none⟩) n pc)) (by kernel_rfl) ⟨_, HJ.out⟩ (fun hHeld => ?_)
          refine wpAnyH_take (i := 0) (v := .pointer (some ⟨bx, 1, none⟩)) rfl (by kernel_rfl) (by kernel_rfl) (by kernel_rfl) (fun _ _ _ h => h) (Or.inl ⟨by rfl, fun w' hSw => ?_⟩) (by with_reducible assumption) ?_
          · clear hSw
            go_simp
          try simp only [Act.put, List.setIfInBounds_toArray, List.set_cons_zero, List.set_cons_succ]
          refine wpAnyH_take (i := 2) (v := .pointer (some ⟨bx, 0, none⟩)) rfl (by kernel_rfl) (by kernel_rfl) (by kernel_rfl) (fun _ _ _ h => h) (Or.inl ⟨by rfl, fun w' hSw => ?_⟩) (by with_reducible assumption) ?_
          · clear hSw
            go_simp
          try simp only [Act.put, List.setIfInBounds_toArray, List.set_cons_zero, List.set_cons_succ]
          refine wpAnyH_take (i := 3) (v := .pointer (some ⟨dk, 0, none⟩)) rfl (by kernel_rfl) (by kernel_rfl) (by kernel_rfl) (fun _ _ _ h => h) (Or.inl ⟨by rfl, fun w' hSw => ?_⟩) (by with_reducible assumption) ?_
          · obtain ⟨xx, hI⟩ := hSw
            have s0 := hI.cells.1
            clear hI
            go_simp
          try simp only [Act.put, List.setIfInBounds_toArray, List.set_cons_zero, List.set_cons_succ]
          refine wpAnyH_take (i := 4) (v := .pointer (some ⟨dk, 0, none⟩)) rfl (by kernel_rfl) (by kernel_rfl) (by kernel_rfl) (fun _ _ _ h => h) (Or.inl ⟨by rfl, fun w' hSw => ?_⟩) (by with_reducible assumption) ?_
          · clear hSw
            go_simp
          try simp only [Act.put, List.setIfInBounds_toArray, List.set_cons_zero, List.set_cons_succ]
          refine wpAnyH_take (i := 5) (v := .pointer (some ⟨dk, 8, none⟩)) rfl (by kernel_rfl) (by kernel_rfl) (by kernel_rfl) (fun _ _ _ h => h) (Or.inl ⟨by rfl, fun w' hSw => ?_⟩) (by with_reducible assumption) ?_
          · clear hSw
            go_simp
          try simp only [Act.put, List.setIfInBounds_toArray, List.set_cons_zero, List.set_cons_succ]
          refine wpAnyH_take (i := 6) (v := .slice (some ⟨gk, 0, none⟩) nk ck) rfl (by kernel_rfl) (by kernel_rfl) (by kernel_rfl) (fun _ _ _ h => h) (Or.inl ⟨by rfl, fun w' hSw => ?_⟩) (by with_reducible assumption) ?_
          · obtain ⟨xx, hI⟩ := hSw
            have s8 := grown_cell hI.1 k8
            clear hI
            go_simp
          try simp only [Act.put, List.setIfInBounds_toArray, List.set_cons_zero, List.set_cons_succ]
          refine wpAnyH_take (i := 7) (v := .int .i64 (i : Int)) rfl (by kernel_rfl) (by kernel_rfl) (by kernel_rfl) (fun _ _ _ h => h) (Or.inl ⟨by rfl, fun w' hSw => ?_⟩) (by with_reducible assumption) ?_
          · clear hSw
            go_simp
          try simp only [Act.put, List.setIfInBounds_toArray, List.set_cons_zero, List.set_cons_succ]
          refine wpAnyH_take (i := 8) (v := .pointer (some ⟨gk, i, none⟩)) rfl (by kernel_rfl) (by kernel_rfl) (by kernel_rfl) (fun _ _ _ h => h) (Or.inl ⟨by rfl, fun w' hSw => ?_⟩) (by with_reducible assumption) ?_
          · clear hSw
            go_simp
          try simp only [Act.put, List.setIfInBounds_toArray, List.set_cons_zero, List.set_cons_succ]
          refine wpAnyH_take (i := 9) (v := .pointer (some ⟨kd, 0, none⟩)) rfl (by kernel_rfl) (by kernel_rfl) (by kernel_rfl) (fun _ _ _ h => h) (Or.inl ⟨by rfl, fun w' hSw => ?_⟩) (by with_reducible assumption) ?_
          · obtain ⟨xx, hI⟩ := hSw
            have st := grown_cell hI.1 kt
            clear hI
            go_simp
          try simp only [Act.put, List.setIfInBounds_toArray, List.set_cons_zero, List.set_cons_succ]
          refine wpAnyH_ready (rs := [1, 10]) (by kernel_rfl) (by simp) ?_
          refine AllReadyH.cons (i := 1) rfl (fun K hK => ?_) (AllReadyH.cons (i := 10) rfl (fun K hK => ?_) AllReadyH.nil)
          · have l1 : wr.drew.cell? ⟨bx, 1, none⟩ = some (.int .i64 (T0 : Int)) := HJ.out.cells.2.1
            go_simp
            clear l1
            refine hK.out _ _ hHeld (fun hHeld2 => ?_)
            clear hK K hHeld
            have hHeld := hHeld2
            clear hHeld2
            try simp only [Act.put, List.setIfInBounds_toArray, List.set_cons_zero, List.set_cons_succ]
            refine wpAnyH_ready (rs := [10]) (by kernel_rfl) (by simp) ?_
            refine AllReadyH.cons (i := 10) rfl (fun K hK => ?_) AllReadyH.nil
            go_simp
            go_wp2_with (go_at_call 52; refine (HC.out 1).mono ?_; rintro e w12 ⟨rfl, hw12⟩; obtain ⟨mm, rfl⟩ := hw12)
            refine hK.out _ _ ⟨_, HJ.out.keep (drewN_kept _ _)⟩ (fun hHeld2 => ?_)
            clear hK K hHeld
            have hHeld := hHeld2
            clear hHeld2
            try simp only [Act.put, List.setIfInBounds_toArray, List.set_cons_zero, List.set_cons_succ]
            refine wpAnyH_take (i := 11) (v := .int .i64 ((T0 : Int) + (z1 : Int))) rfl (by kernel_rfl) (by kernel_rfl) (by kernel_rfl) (fun _ _ _ h => h) (Or.inl ⟨by rfl, fun w' hSw => ?_⟩) (by with_reducible assumption) ?_
            · clear hSw
              go_simp
            try simp only [Act.put, List.setIfInBounds_toArray, List.set_cons_zero, List.set_cons_succ]
            refine wpAnyH_take (i := 12) (v := .pointer (some ⟨bx, 1, none⟩)) rfl (by kernel_rfl) (by kernel_rfl) (by kernel_rfl) (fun _ _ _ h => h) (Or.inl ⟨by rfl, fun w' hSw => ?_⟩) (by with_reducible assumption) ?_
            · clear hSw
              go_simp
            try simp only [Act.put, List.setIfInBounds_toArray, List.set_cons_zero, List.set_cons_succ]
            refine wpAnyH_ready (rs := [13]) (by kernel_rfl) (by simp) ?_
            refine AllReadyH.cons (i := 13) rfl (fun K hK => ?_) AllReadyH.nil
            have l1 : (wr.drewN (1 + mm)).cell? ⟨bx, 1, none⟩ = some (.int .i64 (T0 : Int)) := HJ.out.cells.2.1
            have l2 : (wr.drewN (1 + mm)).frozen? ⟨bx, 1, none⟩ = false := HJ.out.cells.2.2.2
            go_simp
            clear l1 l2
            have HJ2 := hide1 ((HJ.out.keep (drewN_kept wr (1 + mm))).set1 (T0 + z1) (v := (T0 : Int) + (z1 : Int)) (by omega))
            refine hK.out _ _ ⟨_, HJ2.out⟩ (fun hHeld2 => ?_)
            clear hK K hHeld
            have hHeld := hHeld2
            clear hHeld2
            try simp only [Act.put, List.setIfInBounds_toArray, List.set_cons_zero, List.set_cons_succ]
            refine wpAnyH_done (by kernel_rfl) ?_ _
            clear hHeld
            go_wp2_with fail
            go_roundw
            case rel => exact ⟨i + 1, by omega, by go_num, (show FnI w A bx _ dk _ _ from HT.out ▸ HJ2.out)⟩
            case measure => simp [intOf]; omega

          · go_simp
            go_wp2_with (go_at_call 52; refine (HC.out 1).mono ?_; rintro e w12 ⟨rfl, hw12⟩; obtain ⟨mm, rfl⟩ := hw12)
            refine hK.out _ _ ⟨_, HJ.out.keep (drewN_kept _ _)⟩ (fun hHeld2 => ?_)
            clear hK K hHeld
            have hHeld := hHeld2
            clear hHeld2
            try simp only [Act.put, List.setIfInBounds_toArray, List.set_cons_zero, List.set_cons_succ]
            refine wpAnyH_ready (rs := [1]) (by kernel_rfl) (by simp) ?_
            refine AllReadyH.cons (i := 1) rfl (fun K hK => ?_) AllReadyH.nil
            have l1 : (wr.drewN (1 + mm)).cell? ⟨bx, 1, none⟩ = some (.int .i64 (T0 : Int)) := HJ.out.cells.2.1
            go_simp
            clear l1
            refine hK.out _ _ hHeld (fun hHeld2 => ?_)
            clear hK K hHeld
            have hHeld := hHeld2
            clear hHeld2
            try simp only [Act.put, List.setIfInBounds_toArray, List.set_cons_zero, List.set_cons_succ]
            refine wpAnyH_take (i := 11) (v := .int .i64 ((T0 : Int) + (z1 : Int))) rfl (by kernel_rfl) (by kernel_rfl) (by kernel_rfl) (fun _ _ _ h => h) (Or.inl ⟨by rfl, fun w' hSw => ?_⟩) (by with_reducible assumption) ?_
            · clear hSw
              go_simp
            try simp only [Act.put, List.setIfInBounds_toArray, List.set_cons_zero, List.set_cons_succ]
            refine wpAnyH_take (i := 12) (v := .pointer (some ⟨bx, 1, none⟩)) rfl (by kernel_rfl) (by kernel_rfl) (by kernel_rfl) (fun _ _ _ h => h) (Or.inl ⟨by rfl, fun w' hSw => ?_⟩) (by with_reducible assumption) ?_
            · clear hSw
              go_simp
            try simp only [Act.put, List.setIfInBounds_toArray, List.set_cons_zero, List.set_cons_succ]
            refine wpAnyH_ready (rs := [13]) (by kernel_rfl) (by simp) ?_
            refine AllReadyH.cons (i := 13) rfl (fun K hK => ?_) AllReadyH.nil
            have l1 : (wr.drewN (1 + mm)).cell? ⟨bx, 1, none⟩ = some (.int .i64 (T0 : Int)) := HJ.out.cells.2.1
            have l2 : (wr.drewN (1 + mm)).frozen? ⟨bx, 1, none⟩ = false := HJ.out.cells.2.2.2
            go_simp
            clear l1 l2
            have HJ2 := hide1 ((HJ.out.keep (drewN_kept wr (1 + mm))).set1 (T0 + z1) (v := (T0 : Int) + (z1 : Int)) (by omega))
            refine hK.out _ _ ⟨_, HJ2.out⟩ (fun hHeld2 => ?_)
            clear hK K hHeld
            have hHeld := hHeld2
            clear hHeld2
            try simp only [Act.put, List.setIfInBounds_toArray, List.set_cons_zero, List.set_cons_succ]
            refine wpAnyH_done (by kernel_rfl) ?_ _
            clear hHeld
            go_wp2_with fail
            go_roundw
            case rel => exact ⟨i + 1, by omega, by go_num, (show FnI w A bx _ dk _ _ from HT.out ▸ HJ2.out)⟩
            case measure => simp [intOf]; omega

        · have hii : i = pk := by omega
          subst hii
          have hikI : ¬ (i : Int) < (i : Int) := by omega
          go_upto_region 9 with fail
          obtain ⟨pk, hpke⟩ : ∃ pk, pk = i := ⟨_, rfl⟩
          subst hpke
          have kt := HKT.out pk (by omega)
          obtain ⟨kp2, hkp2⟩ : ∃ kp2, (X dk).kids.getD pk 0 = kp2 := ⟨_, rfl⟩
          rw [hkp2] at kt HFS
          clear hkp2
          refine wp_region_held_drew (S := fun W => ∃ x, FnI w A bx W x (ak + sumF wd ((X dk).kids.take pk)) (.slice (some ⟨gp, 0, none⟩) n pc)) (by kernel_rfl) ⟨_, HJ.out⟩ (fun hHeld => ?_)
          refine wpAnyH_take (i := 0) (v := .pointer (some ⟨bx, 0, none⟩)) rfl (by kernel_rfl) (by kernel_rfl) (by kernel_rfl) (fun _ _ _ h => h) (Or.inl ⟨by rfl, fun w' hSw => ?_⟩) (by with_reducible assumption) ?_
          · clear hSw
            go_simp
          try simp only [Act.put, List.setIfInBounds_toArray, List.set_cons_zero, List.set_cons_succ]
          refine wpAnyH_take (i := 5) (v := .slice (some ⟨gp, 0, none⟩) n pc) rfl (by kernel_rfl) (by kernel_rfl) (by kernel_rfl) (fun _ _ _ h => h) (Or.inl ⟨by rfl, fun w' hSw => ?_⟩) (by with_reducible assumption) ?_
          · clear hSw
            go_simp
          try simp only [Act.put, List.setIfInBounds_toArray, List.set_cons_zero, List.set_cons_succ]
          refine wpAnyH_take (i := 6) (v := .int .i64 (k : Int)) rfl (by kernel_rfl) (by kernel_rfl) (by kernel_rfl) (fun _ _ _ h => h) (Or.inl ⟨by rfl, fun w' hSw => ?_⟩) (by with_reducible assumption) ?_
          · clear hSw
            go_simp
          try simp only [Act.put, List.setIfInBounds_toArray, List.set_cons_zero, List.set_cons_succ]
          refine wpAnyH_take (i := 7) (v := .pointer (some ⟨gp, k, none⟩)) rfl (by kernel_rfl) (by kernel_rfl) (by kernel_rfl) (fun _ _ _ h => h) (Or.inl ⟨by rfl, fun w' hSw => ?_⟩) (by with_reducible assumption) ?_
          · clear hSw
            go_simp
          try simp only [Act.put, List.setIfInBounds_toArray, List.set_cons_zero, List.set_cons_succ]
          refine wpAnyH_take (i := 8) (v := .int .i64 (pk : Int)) rfl (by kernel_rfl) (by kernel_rfl) (by kernel_rfl) (fun _ _ _ h => h) (Or.inl ⟨by rfl, fun w' hSw => ?_⟩) (by with_reducible assumption) ?_
          · obtain ⟨xx, hI⟩ := hSw
            have sp := grown_cell hI.1 kp
            clear hI
            go_simp
          try simp only [Act.put, List.setIfInBounds_toArray, List.set_cons_zero, List.set_cons_succ]
          refine wpAnyH_ready (rs := [1]) (by kernel_rfl) (by simp) ?_
          refine AllReadyH.cons (i := 1) rfl (fun K hK => ?_) AllReadyH.nil
          have l1 : wr.drew.cell? ⟨bx, 0, none⟩ = some (.pointer (some ⟨dk, 0, none⟩)) := HJ.out.cells.1
          go_simp
          clear l1
          refine hK.out _ _ hHeld (fun hHeld2 => ?_)
          clear hK K hHeld
          have hHeld := hHeld2
          clear hHeld2
          try simp only [Act.put, List.setIfInBounds_toArray, List.set_cons_zero, List.set_cons_succ]
          refine wpAnyH_take (i := 2) (v := .pointer (some ⟨dk, 0, none⟩)) rfl (by kernel_rfl) (by kernel_rfl) (by kernel_rfl) (fun _ _ _ h => h) (Or.inl ⟨by rfl, fun w' hSw => ?_⟩) (by with_reducible assumption) ?_
          · clear hSw
            go_simp
          try simp only [Act.put, List.setIfInBounds_toArray, List.set_cons_zero, List.set_cons_succ]
          refine wpAnyH_take (i := 3) (v := .pointer (some ⟨dk, 8, none⟩)) rfl (by kernel_rfl) (by kernel_rfl) (by kernel_rfl) (fun _ _ _ h => h) (Or.inl ⟨by rfl, fun w' hSw => ?_⟩) (by with_reducible assumption) ?_
          · clear hSw
            go_simp
          try simp only [Act.put, List.setIfInBounds_toArray, List.set_cons_zero, List.set_cons_succ]
          refine wpAnyH_take (i := 4) (v := .slice (some ⟨gk, 0, none⟩) nk ck) rfl (by kernel_rfl) (by kernel_rfl) (by kernel_rfl) (fun _ _ _ h => h) (Or.inl ⟨by rfl, fun w' hSw => ?_⟩) (by with_reducible assumption) ?_
          · obtain ⟨xx, hI⟩ := hSw
            have s8 := grown_cell hI.1 k8
            clear hI
            go_simp
          try simp only [Act.put, List.setIfInBounds_toArray, List.set_cons_zero, List.set_cons_succ]
          refine wpAnyH_take (i := 9) (v := .pointer (some ⟨gk, pk, none⟩)) rfl (by kernel_rfl) (by kernel_rfl) (by kernel_rfl) (fun _ _ _ h => h) (Or.inl ⟨by rfl, fun w' hSw => ?_⟩) (by with_reducible assumption) ?_
          · clear hSw
            go_simp
          try simp only [Act.put, List.setIfInBounds_toArray, List.set_cons_zero, List.set_cons_succ]
          refine wpAnyH_take (i := 10) (v := .pointer (some ⟨kp2, 0, none⟩)) rfl (by kernel_rfl) (by kernel_rfl) (by kernel_rfl) (fun _ _ _ h => h) (Or.inl ⟨by rfl, fun w' hSw => ?_⟩) (by with_reducible assumption) ?_
          · obtain ⟨xx, hI⟩ := hSw
            have st := grown_cell hI.1 kt
            clear hI
            go_simp
          try simp only [Act.put, List.setIfInBounds_toArray, List.set_cons_zero, List.set_cons_succ]
          refine wpAnyH_take (i := 11) (v := .pointer (some ⟨bx, 0, none⟩)) rfl (by kernel_rfl) (by kernel_rfl) (by kernel_rfl) (fun _ _ _ h => h) (Or.inl ⟨by rfl, fun w' hSw => ?_⟩) (by with_reducible assumption) ?_
          · clear hSw
            go_simp
          try simp only [Act.put, List.setIfInBounds_toArray, List.set_cons_zero, List.set_cons_succ]
          refine wpAnyH_ready (rs := [12]) (by kernel_rfl) (by simp) ?_
          refine AllReadyH.cons (i := 12) rfl (fun K hK => ?_) AllReadyH.nil
          have l1 : wr.drew.cell? ⟨bx, 0, none⟩ = some (.pointer (some ⟨dk, 0, none⟩)) := HJ.out.cells.1
          have l2 : wr.drew.frozen? ⟨bx, 0, none⟩ = false := HJ.out.cells.2.2.1
          go_simp
          clear l1 l2
          have HJ2 := hide1 ((HJ.out.keep (drew_kept wr)).set0 kp2)
          refine hK.out _ _ ⟨_, HJ2.out⟩ (fun hHeld2 => ?_)
          clear hK K hHeld
          have hHeld := hHeld2
          clear hHeld2
          try simp only [Act.put, List.setIfInBounds_toArray, List.set_cons_zero, List.set_cons_succ]
          refine wpAnyH_done (by kernel_rfl) ?_ _
          clear hHeld
          go_wp2_with fail
          go_roundw
          case rel => exact ⟨k + 1, by omega, by go_num, (show FnI w A bx _ _ _ _ by rw [HE.out, HFS.out]; exact HJ2.out)⟩
          case measure => simp [intOf]; omega

    · have hkk : k = n := by omega
      subst hkk
      have HE : Hid (p.take k = p) := by show _ = _; rw [← HN.out, List.take_length]
      rw [HE.out] at HI
      obtain ⟨fd, hfd⟩ : ∃ fd, (fnd X wd p d 0).1 = fd := ⟨_, rfl⟩
      obtain ⟨fa, hfa⟩ : ∃ fa, (fnd X wd p d 0).2 = fa := ⟨_, rfl⟩
      rw [hfd, hfa] at HI
      have HFD := hide1 hfd
      have HFA := hide1 hfa
      obtain ⟨g0, g1, g2, _⟩ := HI.out.cells
      have g3 : wr.cell? ⟨bx, 2, none⟩ = some (.slice pa k pc) := by have := HI.out.2.2.1; simp [World.cell?, this]
      have ha := HI.out.2.1
      have y0 : wr.cell? ⟨A, 0, none⟩ = some (.pointer none) := by simp [World.cell?, ha]
      have y1 : wr.cell? ⟨A, 1, none⟩ = some (.int .i64 0) := by simp [World.cell?, ha]
      have y2 : wr.cell? ⟨A, 2, none⟩ = some (.slice none 0 0) := by simp [World.cell?, ha]
      have z0 : wr.frozen? ⟨A, 0, none⟩ = false := by simp [World.frozen?, ha]
      have z1 : wr.frozen? ⟨A, 1, none⟩ = false := by simp [World.frozen?, ha]
      have z2 : wr.frozen? ⟨A, 2, none⟩ = false := by simp [World.frozen?, ha]
      have HA := hide1 ha
      clear hfd hfa ha g2
      go_wp2_with fail
      refine bodyPost_ret (spot_returns rfl _ _ A _ _ _ rfl (set3 HA.out _ _ _)) rfl ?_
      exact ⟨by rw [HFD.out, HFA.out], KeptBut.new HI.out.1 (but3 _ _ _ _ _) (Nat.le_of_eq HI.out.2.2.2.1.symm)⟩

end Tr
end Ex
end Go.Proofs.Ythpampfbmpdmoaa
