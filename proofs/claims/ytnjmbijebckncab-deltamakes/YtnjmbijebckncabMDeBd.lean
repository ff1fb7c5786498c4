import Derived.Test.YtnjmbijebckncabMDeGv
import Derived.Test.YtnjmbijebckncabMDeNo
import Derived.Test.YtnjmbijebckncabMDeHd
namespace Go.Proofs.Ytnjmbijebckncab
open Go.RowKit Go.Maps
attribute [local go_sem] Oper.semAt_some
namespace Ex
namespace Tr

/-- All blocks below A but s lie as they lay. -/
def KAS (A s : Nat) (w w' : World) : Prop := w'.os = w.os ∧ w'.tape = w.tape ∧ w'.output = w.output ∧ w.heap.size ≤ w'.heap.size ∧ ∀ k, k < A → k ≠ s → w'.heap[k]? = w.heap[k]?
theorem KAS.refl (A s : Nat) (w : World) : KAS A s w w := ⟨rfl, rfl, rfl, Nat.le_refl _, fun _ _ _ => rfl⟩
theorem KAS.trans {A s : Nat} {u v w : World} (h : KAS A s u v) (k : KAS A s v w) : KAS A s u w := ⟨k.1.trans h.1, k.2.1.trans h.2.1, k.2.2.1.trans h.2.2.1, Nat.le_trans h.2.2.2.1 k.2.2.2.1, fun d hd hn => (k.2.2.2.2 d hd hn).trans (h.2.2.2.2 d hd hn)⟩
theorem KeptBut.kas {A s : Nat} {w w' : World} (h : KeptBut s w w') (hA : A ≤ w.heap.size) : KAS A s w w' := ⟨h.1, h.2.1, h.2.2.1, h.2.2.2.1, fun k hk hn => h.2.2.2.2 k (by omega) hn⟩
theorem _root_.Go.Proofs.Ytnjmbijebckncab.Ex.Kept.kas {A : Nat} (s : Nat) {w w' : World} (h : Kept w w') (hA : A ≤ w.heap.size) : KAS A s w w' := ⟨h.1, h.2.1, h.2.2.1, h.2.2.2.1, fun k hk _ => h.2.2.2.2 k (by omega)⟩
theorem KAS.kept {s : Nat} {w0 w w' : World} (h : KeptBut s w0 w) (k : KAS w0.heap.size s w w') : KeptBut s w0 w' := ⟨k.1.trans h.1, k.2.1.trans h.2.1, k.2.2.1.trans h.2.2.1, Nat.le_trans h.2.2.2.1 k.2.2.2.1, fun d hd hn => (k.2.2.2.2 d hd hn).trans (h.2.2.2.2 d hd hn)⟩
/-- The front of a list of the call's own. -/
theorem LO.take {α : Type} {E : ElK α} {w : World} {base n c : Nat} {a : Option Addr} {l : List α} (h : LO E w base (.slice a n c) l) {k : Nat} (hk : k ≤ l.length) : LO E w base (.slice a k c) (l.take k) := by
  have hl : (l.take k).length = k := by rw [List.length_take]; omega
  have hfl : flatE E (l.take k) = (flatE E l).take (k * E.sz) := by
    have e : flatE E l = flatE E (l.take k) ++ flatE E (l.drop k) := by
      unfold flatE
      rw [← List.flatMap_append, List.take_append_drop]
    have e2 : (flatE E (l.take k)).length = k * E.sz := by rw [flatE_lenT, hl]
    rw [e, ← e2, List.take_left]
  unfold LO at h ⊢
  rw [hl]
  rcases h.2 with ⟨h0, h1⟩ | ⟨g, cap, cur, he, h2, h3, h4, h5, h6, h7⟩
  · have hk0 : k = 0 := by omega
    injection h0 with e1 e2 e3
    subst e1 e3 hk0
    refine ⟨?_, Or.inl ⟨rfl, rfl⟩⟩
    simp [flatE]
  · injection he with e1 e2 e3
    subst e1 e3
    refine ⟨by rw [hfl, List.length_take, flatE_lenT]; exact Nat.min_eq_left (Nat.mul_le_mul_right _ hk), Or.inr ⟨g, c, cur, rfl, h2, h3, by omega, h5, h6, ?_⟩⟩
    rw [hfl, ← h7, List.take_take, Nat.min_eq_left (Nat.mul_le_mul_right _ hk)]
/-- A builder in memory. -/
structure BdM (base bb s mb : Nat) (V : Nat → Prop) (S : List Nat) (N : Nat → Nd) (m n : Nat) (f : Int → Option Nat) (rv : Value) (row : List Nat) (w : World) : Prop where
  box : w.heap[bb]? = some (.cells #[.pointer (some ⟨s, 0, none⟩), .map (some mb), rv] 103 (0, 0))
  st : StoreAt w s m
  mp : NMap w mb n f
  rl : LO ndE w base rv row
  lo : bb < base ∧ s < base ∧ mb < base ∧ s ≠ bb ∧ mb ≠ bb ∧ s ≠ mb ∧ base ≤ w.heap.size
  vs : ∀ k, V k → k < w.heap.size ∧ k ≠ bb ∧ k ≠ s ∧ k ≠ mb ∧ rv.ownBlock ≠ some k
  nd : ∀ b ∈ S, NdV V w b (N b)
  sub : ∀ b ∈ row, b ∈ S
section
variable {base bb s mb : Nat} {V : Nat → Prop} {S : List Nat} {N : Nat → Nd} {m n : Nat} {f : Int → Option Nat} {rv : Value} {row : List Nat} {w w' : World}
theorem BdM.keep (h : BdM base bb s mb V S N m n f rv row w) (hk : Kept w w') : BdM base bb s mb V S N m n f rv row w' := by
  have hx : KX V w w' := ⟨hk.2.2.2.1, fun k hk' => hk.2.2.2.2 k (h.vs k hk').1⟩
  refine ⟨(hk.2.2.2.2 bb (Array.getElem?_eq_some_iff.1 h.box).1).trans h.box, h.st.keep hk, h.mp.same (hk.2.2.2.2 mb h.mp.lt), h.rl.keep hk, ?_, fun k hk' => ?_, fun b hb => (h.nd b hb).kx hx, h.sub⟩
  · have := hk.2.2.2.1
    have := h.lo
    omega
  · obtain ⟨a1, a2⟩ := h.vs k hk'
    exact ⟨Nat.lt_of_lt_of_le a1 hk.2.2.2.1, a2⟩
/-- The store has made one more. -/
theorem BdM.but (h : BdM base bb s mb V S N m n f rv row w) {m' b : Nat} {Vb : Nat → Prop} {Y : Nd} (hk : KeptBut s w w') (g0 : StoreAt w' s m') (hVb : ∀ k, Vb k → w.heap.size ≤ k ∧ k < w'.heap.size) (hb : NdV Vb w' b Y) : BdM base bb s mb (fun k => V k ∨ Vb k) (S ++ [b]) (fun k => if k = b then Y else N k) m' n f rv row w' := by
  have hlo := h.lo
  have hx : KX V w w' := ⟨hk.2.2.2.1, fun k hk' => hk.2.2.2.2 k (h.vs k hk').1 (h.vs k hk').2.2.1⟩
  have hbb := (Array.getElem?_eq_some_iff.1 h.box).1
  have hbS : b ∉ S := fun e => by have h1 := (h.vs b (h.nd b e).1).1; have h2 := (hVb b hb.1).1; omega
  have hown : ∀ g, rv.ownBlock = some g → base ≤ g ∧ g < w.heap.size := h.rl.lt'
  refine ⟨(hk.2.2.2.2 bb hbb (Ne.symm hlo.2.2.2.1)).trans h.box, g0, h.mp.same (hk.2.2.2.2 mb h.mp.lt (Ne.symm hlo.2.2.2.2.2.1)), h.rl.same (fun g hg => hk.2.2.2.2 g (hown g hg).2 (by have := (hown g hg).1; omega)), ?_, fun k hk' => ?_, fun c hc => ?_, fun c hc => List.mem_append_left _ (h.sub c hc)⟩
  · have := hk.2.2.2.1
    omega
  · have h9 := hk.2.2.2.1
    rcases hk' with hk' | hk'
    · obtain ⟨a1, a2⟩ := h.vs k hk'
      exact ⟨by omega, a2⟩
    · obtain ⟨a1, a2⟩ := hVb k hk'
      exact ⟨a2, by omega, by omega, by omega, fun e => by have := (hown k e).2; omega⟩
  · rcases List.mem_append.1 hc with hc | hc
    · have e : (if c = b then Y else N c) = N c := if_neg (fun (e : c = b) => hbS (by rw [← e]; exact hc))
      try dsimp only
      rw [e]
      exact ((h.nd c hc).kx hx).more (fun k hk => Or.inl hk)
    · rw [List.mem_singleton.1 hc]
      try dsimp only
      rw [if_pos rfl]
      exact hb.more (fun k hk => Or.inr hk)
/-- The row is another one. -/
theorem bd_row (hM : BdM base bb s mb V S N m n f rv row w) {rv2 : Value} {row2 : List Nat} {g k c : Nat} {wa w5 : World} (hr2 : rv2.ownBlock = rv.ownBlock) (hka : Kept w wa) (hO : LO ndE w5 base (.slice (some ⟨g, 0, none⟩) k c) row2) (hg : wa.grownBy w5 rv2.ownBlock) (hor : rv2.ownBlock = some g ∨ g = wa.heap.size) (hsub : ∀ b ∈ row2, b ∈ S) {A : Nat} (hA : A ≤ bb) :
    BdM base bb s mb V S N m n f (.slice (some ⟨g, 0, none⟩) k c) row2 (w5.setCell ⟨bb, 2, none⟩ (.slice (some ⟨g, 0, none⟩) k c)) ∧ KAS A s w (w5.setCell ⟨bb, 2, none⟩ (.slice (some ⟨g, 0, none⟩) k c)) := by
  have hlo := hM.lo
  rw [hr2] at hg hor
  have hs : w.heap.size ≤ w5.heap.size := Nat.le_trans hka.size hg.size
  have h5 : ∀ k, k < w.heap.size → rv.ownBlock ≠ some k → w5.heap[k]? = w.heap[k]? := fun k hk hn => (hg.block k (Nat.lt_of_lt_of_le hk hka.size) (fun e => hn e.symm)).trans (hka.2.2.2.2 k hk)
  have hown : ∀ d, rv.ownBlock = some d → base ≤ d ∧ d < w.heap.size := hM.rl.lt'
  have hgl := (Array.getElem?_eq_some_iff.1 hM.box).1
  have hbox := (h5 bb hgl (fun e => by have := (hown bb e).1; omega)).trans hM.box
  have hC : ∀ k', k' < w.heap.size → k' ≠ bb → rv.ownBlock ≠ some k' → (w5.setCell ⟨bb, 2, none⟩ (.slice (some ⟨g, 0, none⟩) k c)).heap[k']? = w.heap[k']? := fun k hk hn1 hn2 => (Below.heap_setCell _ _ _ _ hn1).trans (h5 k hk hn2)
  have hsz : (w5.setCell ⟨bb, 2, none⟩ (.slice (some ⟨g, 0, none⟩) k c)).heap.size = w5.heap.size := by simp [World.setCell]
  have hgk : ∀ k', k' < w.heap.size → rv.ownBlock ≠ some k' → g ≠ k' := fun k' hk hn e => by
    rcases hor with h | h
    · exact hn (by rw [h, e])
    · have := hka.size; omega
  have hx : KX V w (w5.setCell ⟨bb, 2, none⟩ (.slice (some ⟨g, 0, none⟩) k c)) := ⟨by omega, fun k' hk => by obtain ⟨a1, a2, a3, a4, a5⟩ := hM.vs k' hk; exact hC k' a1 a2 a5⟩
  refine ⟨⟨(set3g hbox _).2, ?_, ?_, ?_, by omega, fun k' hk => ?_, fun b hb => (hM.nd b hb).kx hx, hsub⟩, ?_⟩
  · exact (hC s hM.st.lt hlo.2.2.2.1 (fun e => by have := (hown s e).1; omega)).trans hM.st
  · exact hM.mp.same (hC mb hM.mp.lt hlo.2.2.2.2.1 (fun e => by have := (hown mb e).1; omega))
  · exact hO.same (fun d hd => Below.heap_setCell _ _ _ _ (by have h9 := (hO.lt' d hd).1; show d ≠ bb; omega))
  · obtain ⟨a1, a2, a3, a4, a5⟩ := hM.vs k' hk
    refine ⟨by omega, a2, a3, a4, fun e => ?_⟩
    simp only [Value.ownBlock, Option.some.injEq] at e
    exact hgk k' a1 a5 e
  · refine ⟨hg.os.trans hka.1, hg.tape.trans hka.2.1, hg.output.trans hka.2.2.1, by omega, fun k' hk hn => hC k' (by omega) (by omega) (fun e => by have := (hown k' e).1; omega)⟩
end
/-- What a step of a builder leaves. -/
def BdR (base bb s mb A : Nat) (V : Nat → Prop) (S : List Nat) (N : Nat → Nd) (m n : Nat) (f : Int → Option Nat) (row : List Nat) (w w' : World) : Prop := ∃ rv, BdM base bb s mb V S N m n f rv row w' ∧ KAS A s w w'
set_option linter.unusedSimpArgs false in
set_option maxRecDepth 100000 in
set_option maxHeartbeats 4000000 in
theorem keepB_ok (base bb s mb A : Nat) (V : Nat → Prop) (S : List Nat) (N : Nat → Nd) (m n : Nat) (f : Int → Option Nat) (rv : Value) (row : List Nat) (w : World) (hM : BdM base bb s mb V S N m n f rv row w) (id : Int) (c : Nat) (hf : f id = some c) (hfit : fits id) (hc : c ∈ S) (hl : row.length ≤ 4194304) (hA : A ≤ bb) :
    Calls Try.prog 66 #[.pointer (some ⟨bb, 0, none⟩), .int .i64 id] w fun e w' => e = .returned (.int .i64 0) ∧ BdR base bb s mb A V S N m n f (row ++ [c]) w w' := by
  obtain ⟨k, hk⟩ : ∃ k, row.length = k := ⟨_, rfl⟩
  obtain ⟨ra, rc, rfl⟩ : ∃ a c, rv = .slice a k c := by rw [← hk]; exact hM.rl.form
  have q1 : w.cell? ⟨bb, 1, none⟩ = some (.map (some mb)) := by simp [World.cell?, hM.box]
  have q2 : w.cell? ⟨bb, 2, none⟩ = some (.slice ra k rc) := by simp [World.cell?, hM.box]
  have hlk := hM.mp.look hfit
  rw [hf] at hlk
  simp only [Option.map_some, Option.isSome_some] at hlk
  have HM := hide1 hM
  have HK := hide1 hk
  have HC := hide1 hc
  have hkI : (k : Int) ≤ 4194304 := by omega
  have hbl := (Array.getElem?_eq_some_iff.1 hM.box).1
  have hbs := hM.lo.2.2.2.2.2.2
  have hbb := hM.lo.1
  clear hM hk hc hf hl
  go_enter Try.func66, Try.ntmps66
  go_wp2_with (at_builtin; refine wpl_lo (E := ndE) rfl _ _ rfl base (.slice ra k rc) row k HK.out rfl (HM.out.rl.keep ((Kept.refl w).alloc _ _)) w.heap.size c rfl (World.alloc_heap_new w _) (by show (k + 1) * 8 ≤ 140737488355328; omega) (by unfold maxLen; omega) (Nat.le_trans hbs (alloc_le w _)) ?_; intro g5 c5 w5 ho5 hg5 hor5 hl5; have hx5 := (hg5.block bb (Nat.lt_of_lt_of_le hbl (alloc_le w _)) (fun e => by have := (HM.out.rl.lt' bb e.symm).1; omega)).trans ((heap_alloc_old w _ hbl).trans HM.out.box); have y1 : w5.cell? ⟨bb, 2, none⟩ = some (.slice ra k rc) := (by simp [World.cell?, hx5]); have f1 : w5.frozen? ⟨bb, 2, none⟩ = false := (by simp [World.frozen?, hx5]); have HO5 := hide1 ho5; have HG5 := hide1 hg5; have HOR5 := hide1 hor5; clear ho5 hg5 hor5 hl5 hx5)
  go_ret
  exact ⟨rfl, _, bd_row HM.out rfl ((Kept.refl w).alloc _ _) HO5.out HG5.out HOR5.out (fun b hb => by
    rcases List.mem_append.1 hb with h | h
    · exact HM.out.sub b h
    · rw [List.mem_singleton.1 h]; exact HC.out) hA⟩

end Tr
end Ex
end Go.Proofs.Ytnjmbijebckncab
namespace Go.Proofs.Ytnjmbijebckncab
open Go.RowKit Go.Maps
attribute [local go_sem] Oper.semAt_some
namespace Ex
namespace Tr

/-- What a node that is made leaves. -/
def BdN (base bb s mb A : Nat) (S : List Nat) (N : Nat → Nd) (m n : Nat) (f : Int → Option Nat) (Y : Nd) (r0 : List Nat) (w w' : World) : Prop := ∃ V b, b ∉ S ∧ w.heap.size ≤ b ∧ BdR base bb s mb A V (S ++ [b]) (fun d => if d = b then Y else N d) (m + 1) n f (r0 ++ [b]) w w'
set_option linter.unusedSimpArgs false in
set_option maxRecDepth 100000 in
set_option maxHeartbeats 4000000 in
theorem joinB_ok (base bb s mb A : Nat) (V : Nat → Prop) (S : List Nat) (N : Nat → Nd) (m n : Nat) (f : Int → Option Nat) (rv : Value) (r0 ks : List Nat) (w : World) (hM : BdM base bb s mb V S N m n f rv (r0 ++ ks) w) (kd nn : Int) (hok : ∀ b ∈ ks, NdOk (N b) ∧ (N b).st = s) (hm : m ≤ 4611686018427387904) (hmay : mayP kd nn = true) (hz : 1 + sizeS N ks ≤ 4194304) (hl : (r0 ++ ks).length ≤ 4194304) (hA : A ≤ bb) (hAs : A ≤ w.heap.size) :
    Calls Try.prog 67 #[.pointer (some ⟨bb, 0, none⟩), .int .i64 kd, .int .i64 nn, .int .i64 (ks.length : Int)] w fun e w' => e = .returned (.int .i64 0) ∧ BdN base bb s mb A S N m n f (makeN N s m kd nn ks) r0 w w' := by
  obtain ⟨k, hk⟩ : ∃ k, ks.length = k := ⟨_, rfl⟩
  obtain ⟨fr, hfr⟩ : ∃ fr, r0.length = fr := ⟨_, rfl⟩
  obtain ⟨L, hL⟩ : ∃ L, (r0 ++ ks).length = L := ⟨_, rfl⟩
  have hLk : L = fr + k := by rw [← hL, List.length_append, hfr, hk]
  obtain ⟨ra, rc, rfl⟩ : ∃ a c, rv = .slice a L c := by rw [← hL]; exact hM.rl.form
  have hcap := hM.rl.cap
  rw [hL] at hcap hl
  have q0 : w.cell? ⟨bb, 0, none⟩ = some (.pointer (some ⟨s, 0, none⟩)) := by simp [World.cell?, hM.box]
  have q2 : w.cell? ⟨bb, 2, none⟩ = some (.slice ra L rc) := by simp [World.cell?, hM.box]
  have hlo := hM.lo
  have hbs : bb ≠ s := Ne.symm hlo.2.2.2.1
  have k0 := keepsB hbs q0
  have k2 := keepsB hbs q2
  have hkr : KeptBut s w w := (Kept.refl w).tbut s
  have HM := hide1 hM
  have HK := hide1 hk
  have HFR := hide1 hfr
  have HOK := hide1 hok
  have HMK : Hid (∀ W v', Kept w W → PtrsN W v' ks → Calls Try.prog 33 #[.pointer (some ⟨s, 0, none⟩), .int .i64 kd, .int .i64 nn, v'] W fun e w' => ∃ b, e = .returned (.tuple #[.pointer (some ⟨b, 0, none⟩), .int .i64 0]) ∧ W.heap.size ≤ b ∧ KeptBut s W w' ∧ StoreAt w' s (m + 1) ∧ NodeAt w'.heap.size w' b (makeN N s m kd nn ks) ∧ RowLow W.heap.size w' b) := fun W v' hW hv => by
    have hMW := hM.keep hW
    exact make_okN N W.heap.size s m kd nn ks v' W hMW.st hv (fun b hb => (hMW.nd b (hMW.sub b (List.mem_append_right _ hb))).at (fun k hk => (hMW.vs k hk).1)) (Nat.le_refl _) (fun b hb => (hok b hb).1) hm hmay (by unfold ownP; rw [List.all_eq_true]; intro b hb; simpa using (hok b hb).2) hz
  have HPT : Hid (∀ W, Kept w W → ∀ (g o c' : Nat), ra = some ⟨g, 0, none⟩ → o = fr → PtrsN W (.slice (some ⟨g, o, none⟩) k c') ks) := fun W hW g o c' hg ho => by
    subst ho
    have ho := (hM.keep hW).rl
    rw [hg] at ho
    refine ⟨some ⟨g, o, none⟩, c', by rw [hk], by omega, fun i b hi => ⟨g, o, rfl, ?_⟩⟩
    have h1 := ho.cell (i := o + i) (j := 0) (x := b) (u := .pointer (some ⟨b, 0, none⟩)) (by rw [← hfr, List.getElem?_append_right (by omega)]; simpa using hi) rfl
    rw [show (o + i) * ndE.sz + 0 = o + i from by show (o + i) * 1 + 0 = o + i; omega] at h1
    exact h1
  have HP0 : Hid (∀ W, k = 0 → ∀ (a' : Option Addr) (c' : Nat), PtrsN W (.slice a' 0 c') ks) := fun W h0 a' c' => ⟨a', c', by rw [hk, h0], by omega, fun i b hi => by have h9 := (List.getElem?_eq_some_iff.1 hi).1; omega⟩
  have hLI : (L : Int) ≤ 4194304 := by omega
  have hkI : (k : Int) ≤ (L : Int) := by omega
  have hfI : (L : Int) - (k : Int) = (fr : Int) := by omega
  have hfL : (fr : Int) ≤ (L : Int) := by omega
  have hcI : (L : Int) ≤ (rc : Int) := by omega
  have hfc : (fr : Int) ≤ (rc : Int) := by omega
  rw [hk]
  have hnil := hM.rl.2
  have HLK := hide1 hLk
  clear hLk
  clear hM hk hfr hok hL hm hmay hz
  rcases hnil with ⟨h0, _⟩ | ⟨g, cap, cur, h0, _⟩
  · injection h0 with e1 e2 e3
    subst e1 e2 e3
    obtain rfl : k = 0 := by have := HLK.out; omega
    obtain rfl : fr = 0 := by have := HLK.out; omega
    clear hfI hkI hfL hfc hcI hcap hLI hl
    go_enter Try.func67, Try.ntmps67
    go_upto_region 4 with fail
    go_region_held3 (fun w' => KeptBut s w w') (first | assumption | exact (Kept.refl _).tbut _ | exact (drew_kept _).tbut _)
      ((go_at_call 33; refine (HMK.out _ _ (by first | exact drew_kept _ | exact Kept.refl _) (HP0.out _ rfl none 0)).mono ?_; rintro e w3 ⟨b, rfl, hb2, hk2, hs2, hn2, hr2⟩; have k3 : KeptBut s w w3 := KeptBut.trans (by assumption) hk2; have hb2' : w.heap.size ≤ b := hb2; have hr2' : RowLow w.heap.size w3 b := hr2; clear hr2 hb2))
    have y2 := k2 w3 k3
    have HM3 := hide1 (HM.out.but (Vb := fun k => w.heap.size ≤ k ∧ k < w3.heap.size) k3 hs2 (fun k hk => hk) (ndV_of hn2 hb2' (Or.inl hr2')))
    have HK3 := hide1 k3
    have HB2 := hide1 hb2'
    have hbl3 : bb < w3.heap.size := (Array.getElem?_eq_some_iff.1 HM3.out.box).1
    have hbs3 := HM3.out.lo.2.2.2.2.2.2
    have hbb3 := HM3.out.lo.1
    have HRL : Hid (LO ndE w3 base (.slice none 0 0) r0) := by
      have h9 := HM3.out.rl.take (k := r0.length) (by rw [List.length_append]; omega)
      rw [List.take_left, HFR.out] at h9
      exact h9
    clear k0 k2 hkr hk2 hs2 hn2 hr2' hb2' k3 q0 q2 HMK
    go_wp2_with (at_builtin; refine wpl_lo (E := ndE) rfl _ _ rfl base (.slice none 0 0) r0 0 HFR.out rfl (HRL.out.keep ((Kept.refl w3).alloc _ _)) w3.heap.size b rfl (World.alloc_heap_new w3 _) (by show (0 + 1) * 8 ≤ 140737488355328; omega) (by unfold maxLen; omega) (Nat.le_trans hbs3 (alloc_le w3 _)) ?_; intro g5 c5 w5 ho5 hg5 hor5 hl5; have hx5 := (hg5.block bb (Nat.lt_of_lt_of_le hbl3 (alloc_le w3 _)) (fun e => by have := (HRL.out.lt' bb e.symm).1; omega)).trans ((heap_alloc_old w3 _ hbl3).trans HM3.out.box); have y1 : w5.cell? ⟨bb, 2, none⟩ = some (.slice none 0 0) := (by simp [World.cell?, hx5]); have f1 : w5.frozen? ⟨bb, 2, none⟩ = false := (by simp [World.frozen?, hx5]); have HO5 := hide1 ho5; have HG5 := hide1 hg5; have HOR5 := hide1 hor5; clear ho5 hg5 hor5 hl5 hx5)
    go_ret
    have hfin := bd_row HM3.out (rv2 := .slice none 0 0) rfl ((Kept.refl w3).alloc _ _) HO5.out HG5.out HOR5.out (fun d hd => by
      rcases List.mem_append.1 hd with h | h
      · exact List.mem_append_left _ (HM.out.sub d (List.mem_append_left _ h))
      · exact List.mem_append_right _ h) hA
    exact ⟨rfl, _, b, (fun e => by have h1 := (HM.out.vs b (HM.out.nd b e).1).1; have h2 := HB2.out; omega), HB2.out, _, hfin.1, (HK3.out.kas hAs).trans hfin.2⟩
  · injection h0 with e1 e2 e3
    subst e1
    clear e2 e3
    by_cases hrc : fr = rc
    · subst hrc
      obtain rfl : L = fr := by have := HLK.out; omega
      obtain rfl : k = 0 := by have := HLK.out; omega
      clear hfI hkI hfL hcap hcI hfc
      go_enter Try.func67, Try.ntmps67
      go_upto_region 4 with fail
      go_region_held3 (fun w' => KeptBut s w w') (first | assumption | exact (Kept.refl _).tbut _ | exact (drew_kept _).tbut _)
        ((go_at_call 33; refine (HMK.out _ _ (by first | exact drew_kept _ | exact Kept.refl _) (HP0.out _ rfl _ _)).mono ?_; rintro e w3 ⟨b, rfl, hb2, hk2, hs2, hn2, hr2⟩; have k3 : KeptBut s w w3 := KeptBut.trans (by assumption) hk2; have hb2' : w.heap.size ≤ b := hb2; have hr2' : RowLow w.heap.size w3 b := hr2; clear hr2 hb2))
      have y2 := k2 w3 k3
      have HM3 := hide1 (HM.out.but (Vb := fun k => w.heap.size ≤ k ∧ k < w3.heap.size) k3 hs2 (fun k hk => hk) (ndV_of hn2 hb2' (Or.inl hr2')))
      have HK3 := hide1 k3
      have HB2 := hide1 hb2'
      have hbl3 : bb < w3.heap.size := (Array.getElem?_eq_some_iff.1 HM3.out.box).1
      have hbs3 := HM3.out.lo.2.2.2.2.2.2
      have hbb3 := HM3.out.lo.1
      have HRL : Hid (LO ndE w3 base (.slice (some ⟨g, 0, none⟩) L L) r0) := by
        have h9 := HM3.out.rl.take (k := r0.length) (by rw [List.length_append]; omega)
        rw [List.take_left, HFR.out] at h9
        exact h9
      clear k0 k2 hkr hk2 hs2 hn2 hr2' hb2' k3 q0 q2 HMK
      go_wp2_with (at_builtin; refine wpl_lo (E := ndE) rfl _ _ rfl base (.slice (some ⟨g, 0, none⟩) L L) r0 L HFR.out rfl (HRL.out.keep ((Kept.refl w3).alloc _ _)) w3.heap.size b rfl (World.alloc_heap_new w3 _) (by show (L + 1) * 8 ≤ 140737488355328; omega) (by unfold maxLen; omega) (Nat.le_trans hbs3 (alloc_le w3 _)) ?_; intro g5 c5 w5 ho5 hg5 hor5 hl5; have hx5 := (hg5.block bb (Nat.lt_of_lt_of_le hbl3 (alloc_le w3 _)) (fun e => by have := (HRL.out.lt' bb e.symm).1; omega)).trans ((heap_alloc_old w3 _ hbl3).trans HM3.out.box); have y1 : w5.cell? ⟨bb, 2, none⟩ = some (.slice (some ⟨g, 0, none⟩) L L) := (by simp [World.cell?, hx5]); have f1 : w5.frozen? ⟨bb, 2, none⟩ = false := (by simp [World.frozen?, hx5]); have HO5 := hide1 ho5; have HG5 := hide1 hg5; have HOR5 := hide1 hor5; clear ho5 hg5 hor5 hl5 hx5)
      go_ret
      have hfin := bd_row HM3.out (rv2 := .slice (some ⟨g, 0, none⟩) L L) rfl ((Kept.refl w3).alloc _ _) HO5.out HG5.out HOR5.out (fun d hd => by
        rcases List.mem_append.1 hd with h | h
        · exact List.mem_append_left _ (HM.out.sub d (List.mem_append_left _ h))
        · exact List.mem_append_right _ h) hA
      exact ⟨rfl, _, b, (fun e => by have h1 := (HM.out.vs b (HM.out.nd b e).1).1; have h2 := HB2.out; omega), HB2.out, _, hfin.1, (HK3.out.kas hAs).trans hfin.2⟩
    · have hne1 : ¬ rc - fr = 0 := by omega
      have hne2 : ¬ rc = fr := by omega
      have hne3 : ¬ (rc : Int) = (fr : Int) := by omega
      have hlt : fr < rc := by omega
      have hltI : (fr : Int) < (rc : Int) := by omega
      have hLf : L - fr = k := by have := HLK.out; omega
      have hf0 : (0 : Int) ≤ (fr : Int) := by omega
      go_enter Try.func67, Try.ntmps67
      go_upto_region 4 with fail
      go_region_held3 (fun w' => KeptBut s w w') (first | assumption | exact (Kept.refl _).tbut _ | exact (drew_kept _).tbut _)
        ((go_at_call 33; refine (HMK.out _ _ (by first | exact drew_kept _ | exact Kept.refl _) (HPT.out _ (by first | exact drew_kept _ | exact Kept.refl _) g _ _ rfl (by first | rfl | simp))).mono ?_; rintro e w3 ⟨b, rfl, hb2, hk2, hs2, hn2, hr2⟩; have k3 : KeptBut s w w3 := KeptBut.trans (by assumption) hk2; have hb2' : w.heap.size ≤ b := hb2; have hr2' : RowLow w.heap.size w3 b := hr2; clear hr2 hb2))
      have y2 := k2 w3 k3
      have HM3 := hide1 (HM.out.but (Vb := fun k => w.heap.size ≤ k ∧ k < w3.heap.size) k3 hs2 (fun k hk => hk) (ndV_of hn2 hb2' (Or.inl hr2')))
      have HK3 := hide1 k3
      have HB2 := hide1 hb2'
      have hbl3 : bb < w3.heap.size := (Array.getElem?_eq_some_iff.1 HM3.out.box).1
      have hbs3 := HM3.out.lo.2.2.2.2.2.2
      have hbb3 := HM3.out.lo.1
      have HRL : Hid (LO ndE w3 base (.slice (some ⟨g, 0, none⟩) fr rc) r0) := by
        have h9 := HM3.out.rl.take (k := r0.length) (by rw [List.length_append]; omega)
        rw [List.take_left, HFR.out] at h9
        exact h9
      clear k0 k2 hkr hk2 hs2 hn2 hr2' hb2' k3 q0 q2 HMK
      go_wp2_with (at_builtin; refine wpl_lo (E := ndE) rfl _ _ rfl base (.slice (some ⟨g, 0, none⟩) fr rc) r0 fr HFR.out rfl (HRL.out.keep ((Kept.refl w3).alloc _ _)) w3.heap.size b rfl (World.alloc_heap_new w3 _) (by show (fr + 1) * 8 ≤ 140737488355328; omega) (by unfold maxLen; omega) (Nat.le_trans hbs3 (alloc_le w3 _)) ?_; intro g5 c5 w5 ho5 hg5 hor5 hl5; have hx5 := (hg5.block bb (Nat.lt_of_lt_of_le hbl3 (alloc_le w3 _)) (fun e => by have := (HRL.out.lt' bb e.symm).1; omega)).trans ((heap_alloc_old w3 _ hbl3).trans HM3.out.box); have y1 : w5.cell? ⟨bb, 2, none⟩ = some (.slice (some ⟨g, 0, none⟩) L rc) := (by simp [World.cell?, hx5]); have f1 : w5.frozen? ⟨bb, 2, none⟩ = false := (by simp [World.frozen?, hx5]); have HO5 := hide1 ho5; have HG5 := hide1 hg5; have HOR5 := hide1 hor5; clear ho5 hg5 hor5 hl5 hx5)
      go_ret
      have hfin := bd_row HM3.out (rv2 := .slice (some ⟨g, 0, none⟩) fr rc) rfl ((Kept.refl w3).alloc _ _) HO5.out HG5.out HOR5.out (fun d hd => by
        rcases List.mem_append.1 hd with h | h
        · exact List.mem_append_left _ (HM.out.sub d (List.mem_append_left _ h))
        · exact List.mem_append_right _ h) hA
      exact ⟨rfl, _, b, (fun e => by have h1 := (HM.out.vs b (HM.out.nd b e).1).1; have h2 := HB2.out; omega), HB2.out, _, hfin.1, (HK3.out.kas hAs).trans hfin.2⟩

end Tr
end Ex
end Go.Proofs.Ytnjmbijebckncab
namespace Go.Proofs.Ytnjmbijebckncab
open Go.RowKit Go.Maps
attribute [local go_sem] Oper.semAt_some
namespace Ex
namespace Tr

theorem BdR.from {base bb s mb A : Nat} {V : Nat → Prop} {S : List Nat} {N : Nat → Nd} {m n : Nat} {f : Int → Option Nat} {row : List Nat} {u w w' : World} (h : BdR base bb s mb A V S N m n f row w w') (k : KAS A s u w) : BdR base bb s mb A V S N m n f row u w' := by
  obtain ⟨rv, h1, h2⟩ := h
  exact ⟨rv, h1, k.trans h2⟩
theorem BdN.from {base bb s mb A : Nat} {S : List Nat} {N : Nat → Nd} {m n : Nat} {f : Int → Option Nat} {Y : Nd} {r0 : List Nat} {u w w' : World} (h : BdN base bb s mb A S N m n f Y r0 w w') (k : KAS A s u w) : BdN base bb s mb A S N m n f Y r0 u w' := by
  obtain ⟨V, b, h1, h2, h3⟩ := h
  exact ⟨V, b, h1, Nat.le_trans k.2.2.2.1 h2, h3.from k⟩
section
variable (base bb s mb A : Nat) (V : Nat → Prop) (S : List Nat) (N : Nat → Nd) (m n : Nat) (f : Int → Option Nat) (rv : Value)
set_option linter.unusedSimpArgs false in
set_option maxRecDepth 100000 in
set_option maxHeartbeats 4000000 in
theorem doB_keep (row : List Nat) (w : World) (hM : BdM base bb s mb V S N m n f rv row w) (id : Int) (c : Nat) (hf : f id = some c) (hfit : fits id) (hc : c ∈ S) (hl : row.length ≤ 4194304) (hA : A ≤ bb) (hAs : A ≤ w.heap.size) :
    Calls Try.prog 41 #[.pointer (some ⟨bb, 0, none⟩), .agg #[.int .i64 1, .int .i64 id, .int .i64 0, .int .i64 0, .int .i64 0, .int .i64 0, .int .i64 0, .int .i64 0, .int .i64 0]] w fun e w' => e = .returned (.int .i64 0) ∧ BdR base bb s mb A V S N m n f (row ++ [c]) w w' := by
  have HKP := hide1 (fun W (hW : Kept w W) => keepB_ok base bb s mb A V S N m n f rv row W (hM.keep hW) id c hf hfit hc hl hA)
  clear hM hf hfit hc hl
  go_enter Try.func41, Try.ntmps41
  go_wp2_with (go_at_call 66; refine (HKP.out _ ((Kept.refl w).alloc _ _)).mono ?_; rintro e w2 ⟨rfl, h2⟩; have H2 := hide1 h2; clear h2)
  go_ret
  exact ⟨rfl, H2.out.from (((Kept.refl w).alloc _ _).kas s hAs)⟩
set_option linter.unusedSimpArgs false in
set_option maxRecDepth 100000 in
set_option maxHeartbeats 4000000 in
theorem doB_make (r0 ks : List Nat) (w : World) (hM : BdM base bb s mb V S N m n f rv (r0 ++ ks) w) (kd nn : Int) (hok : ∀ b ∈ ks, NdOk (N b) ∧ (N b).st = s) (hm : m ≤ 4611686018427387904) (hmay : mayP kd nn = true) (hz : 1 + sizeS N ks ≤ 4194304) (hl : (r0 ++ ks).length ≤ 4194304) (hA : A ≤ bb) (hAs : A ≤ w.heap.size) :
    Calls Try.prog 41 #[.pointer (some ⟨bb, 0, none⟩), .agg #[.int .i64 3, .int .i64 0, .int .i64 kd, .int .i64 nn, .int .i64 (ks.length : Int), .int .i64 0, .int .i64 0, .int .i64 0, .int .i64 0]] w fun e w' => e = .returned (.int .i64 0) ∧ BdN base bb s mb A S N m n f (makeN N s m kd nn ks) r0 w w' := by
  have HJ := hide1 (fun W (hW : Kept w W) => joinB_ok base bb s mb A V S N m n f rv r0 ks W (hM.keep hW) kd nn hok hm hmay hz hl hA (Nat.le_trans hAs hW.size))
  obtain ⟨k, hk⟩ : ∃ k, ks.length = k := ⟨_, rfl⟩
  rw [hk] at HJ ⊢
  clear hM hok hm hmay hz hl hk
  go_enter Try.func41, Try.ntmps41
  go_wp2_with (go_at_call 67; refine (HJ.out _ ((Kept.refl w).alloc _ _)).mono ?_; rintro e w2 ⟨rfl, h2⟩; have H2 := hide1 h2; clear h2)
  go_ret
  exact ⟨rfl, H2.out.from (((Kept.refl w).alloc _ _).kas s hAs)⟩
end

end Tr
end Ex
end Go.Proofs.Ytnjmbijebckncab
