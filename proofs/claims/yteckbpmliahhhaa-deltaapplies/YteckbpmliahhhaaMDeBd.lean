import Derived.Test.YteckbpmliahhhaaMDeGv
import Derived.Test.YteckbpmliahhhaaMDeNo
import Derived.Test.YteckbpmliahhhaaMDeHd
import Derived.Test.YteckbpmliahhhaaMDeGq
import Derived.Test.YteckbpmliahhhaaMDeFi
import Derived.BigQuiet
namespace Go.Proofs.Yteckbpmliahhhaa
open Go.RowKit Go.Maps
attribute [local go_sem] Oper.semAt_some
namespace Ex
namespace Tr

/-- All blocks below A but s lie as they lay. -/
def KAS (A s : Nat) (w w' : World) : Prop := w'.os = w.os ∧ w'.tape = w.tape ∧ w'.output = w.output ∧ w.heap.size ≤ w'.heap.size ∧ ∀ k, k < A → k ≠ s → w'.heap[k]? = w.heap[k]?
theorem KAS.refl (A s : Nat) (w : World) : KAS A s w w := ⟨rfl, rfl, rfl, Nat.le_refl _, fun _ _ _ => rfl⟩
theorem KAS.trans {A s : Nat} {u v w : World} (h : KAS A s u v) (k : KAS A s v w) : KAS A s u w := ⟨k.1.trans h.1, k.2.1.trans h.2.1, k.2.2.1.trans h.2.2.1, Nat.le_trans h.2.2.2.1 k.2.2.2.1, fun d hd hn => (k.2.2.2.2 d hd hn).trans (h.2.2.2.2 d hd hn)⟩
theorem KeptBut.kas {A s : Nat} {w w' : World} (h : KeptBut s w w') (hA : A ≤ w.heap.size) : KAS A s w w' := ⟨h.1, h.2.1, h.2.2.1, h.2.2.2.1, fun k hk hn => h.2.2.2.2 k (by omega) hn⟩
theorem _root_.Go.Proofs.Yteckbpmliahhhaa.Ex.Kept.kas {A : Nat} (s : Nat) {w w' : World} (h : Kept w w') (hA : A ≤ w.heap.size) : KAS A s w w' := ⟨h.1, h.2.1, h.2.2.1, h.2.2.2.1, fun k hk _ => h.2.2.2.2 k (by omega)⟩
theorem KAS.kept {s : Nat} {w0 w w' : World} (h : KeptBut s w0 w) (k : KAS w0.heap.size s w w') : KeptBut s w0 w' := ⟨k.1.trans h.1, k.2.1.trans h.2.1, k.2.2.1.trans h.2.2.1, Nat.le_trans h.2.2.2.1 k.2.2.2.1, fun d hd hn => (k.2.2.2.2 d hd hn).trans (h.2.2.2.2 d hd hn)⟩
/-- The front of a list of the call's own. -/
theorem LO.take {α : Type} {E : ElK α} {w : World} {base n c : Nat} {a : Option Addr} {l : List α} (h : LO E w base (.slice a n c) l) {k : Nat} (hk : k ≤ l.length) : LO E w base (.slice a k c) (l.take k) := by
  have hl : (l.take k).length = k := by rw [List.length_take]; omega
  have hfl : flatE E (l.take k) = (flatE E l).take (k * E.sz) := by
    have e : flatE E l = flatE E (l.take k) ++ flatE E (l.drop k) := by
      unfold flatE
      rw [← List.flatMap_append, List.take_append_drop]
    have e2 : (flatE E (l.take k)).length = k * E.sz := by rw [flatE_lenT, hl]
    rw [e, ← e2, List.take_left]
  unfold LO at h ⊢
  rw [hl]
  rcases h.2 with ⟨h0, h1⟩ | ⟨g, cap, cur, he, h2, h3, h4, h5, h6, h7⟩
  · have hk0 : k = 0 := by omega
    injection h0 with e1 e2 e3
    subst e1 e3 hk0
    refine ⟨?_, Or.inl ⟨rfl, rfl⟩⟩
    simp [flatE]
  · injection he with e1 e2 e3
    subst e1 e3
    refine ⟨by rw [hfl, List.length_take, flatE_lenT]; exact Nat.min_eq_left (Nat.mul_le_mul_right _ hk), Or.inr ⟨g, c, cur, rfl, h2, h3, by omega, h5, h6, ?_⟩⟩
    rw [hfl, ← h7, List.take_take, Nat.min_eq_left (Nat.mul_le_mul_right _ hk)]
/-- A builder in memory. -/
structure BdM (base bb s mb : Nat) (V : Nat → Prop) (S : List Nat) (N : Nat → Nd) (m n : Nat) (f : Int → Option Nat) (rv : Value) (row : List Nat) (w : World) : Prop where
  box : w.heap[bb]? = some (.cells #[.pointer (some ⟨s, 0, none⟩), .map (some mb), rv] 65 (0, 0))
  st : StoreAt w s m
  mp : NMap w mb n f
  rl : LO ndE w base rv row
  lo : bb < base ∧ s < base ∧ mb < base ∧ s ≠ bb ∧ mb ≠ bb ∧ s ≠ mb ∧ base ≤ w.heap.size
  vs : ∀ k, V k → k < w.heap.size ∧ k ≠ bb ∧ k ≠ s ∧ k ≠ mb ∧ rv.ownBlock ≠ some k
  nd : ∀ b ∈ S, NdV V w b (N b)
  sub : ∀ b ∈ row, b ∈ S
section
variable {base bb s mb : Nat} {V : Nat → Prop} {S : List Nat} {N : Nat → Nd} {m n : Nat} {f : Int → Option Nat} {rv : Value} {row : List Nat} {w w' : World}
theorem BdM.keep (h : BdM base bb s mb V S N m n f rv row w) (hk : Kept w w') : BdM base bb s mb V S N m n f rv row w' := by
  have hx : KX V w w' := ⟨hk.2.2.2.1, fun k hk' => hk.2.2.2.2 k (h.vs k hk').1⟩
  refine ⟨(hk.2.2.2.2 bb (Array.getElem?_eq_some_iff.1 h.box).1).trans h.box, h.st.keep hk, h.mp.same (hk.2.2.2.2 mb h.mp.lt), h.rl.keep hk, ?_, fun k hk' => ?_, fun b hb => (h.nd b hb).kx hx, h.sub⟩
  · have := hk.2.2.2.1
    have := h.lo
    omega
  · obtain ⟨a1, a2⟩ := h.vs k hk'
    exact ⟨Nat.lt_of_lt_of_le a1 hk.2.2.2.1, a2⟩
/-- The store has made one more. -/
theorem BdM.but (h : BdM base bb s mb V S N m n f rv row w) {m' b : Nat} {Vb : Nat → Prop} {Y : Nd} (hk : KeptBut s w w') (g0 : StoreAt w' s m') (hVb : ∀ k, Vb k → w.heap.size ≤ k ∧ k < w'.heap.size) (hb : NdV Vb w' b Y) : BdM base bb s mb (fun k => V k ∨ Vb k) (S ++ [b]) (fun k => if k = b then Y else N k) m' n f rv row w' := by
  have hlo := h.lo
  have hx : KX V w w' := ⟨hk.2.2.2.1, fun k hk' => hk.2.2.2.2 k (h.vs k hk').1 (h.vs k hk').2.2.1⟩
  have hbb := (Array.getElem?_eq_some_iff.1 h.box).1
  have hbS : b ∉ S := fun e => by have h1 := (h.vs b (h.nd b e).1).1; have h2 := (hVb b hb.1).1; omega
  have hown : ∀ g, rv.ownBlock = some g → base ≤ g ∧ g < w.heap.size := h.rl.lt'
  refine ⟨(hk.2.2.2.2 bb hbb (Ne.symm hlo.2.2.2.1)).trans h.box, g0, h.mp.same (hk.2.2.2.2 mb h.mp.lt (Ne.symm hlo.2.2.2.2.2.1)), h.rl.same (fun g hg => hk.2.2.2.2 g (hown g hg).2 (by have := (hown g hg).1; omega)), ?_, fun k hk' => ?_, fun c hc => ?_, fun c hc => List.mem_append_left _ (h.sub c hc)⟩
  · have := hk.2.2.2.1
    omega
  · have h9 := hk.2.2.2.1
    rcases hk' with hk' | hk'
    · obtain ⟨a1, a2⟩ := h.vs k hk'
      exact ⟨by omega, a2⟩
    · obtain ⟨a1, a2⟩ := hVb k hk'
      exact ⟨a2, by omega, by omega, by omega, fun e => by have := (hown k e).2; omega⟩
  · rcases List.mem_append.1 hc with hc | hc
    · have e : (if c = b then Y else N c) = N c := if_neg (fun (e : c = b) => hbS (by rw [← e]; exact hc))
      try dsimp only
      rw [e]
      exact ((h.nd c hc).kx hx).more (fun k hk => Or.inl hk)
    · rw [List.mem_singleton.1 hc]
      try dsimp only
      rw [if_pos rfl]
      exact hb.more (fun k hk => Or.inr hk)
/-- The row is another one. -/
theorem bd_row (hM : BdM base bb s mb V S N m n f rv row w) {rv2 : Value} {row2 : List Nat} {g k c : Nat} {wa w5 : World} (hr2 : rv2.ownBlock = rv.ownBlock) (hka : Kept w wa) (hO : LO ndE w5 base (.slice (some ⟨g, 0, none⟩) k c) row2) (hg : wa.grownBy w5 rv2.ownBlock) (hor : rv2.ownBlock = some g ∨ g = wa.heap.size) (hsub : ∀ b ∈ row2, b ∈ S) {A : Nat} (hA : A ≤ bb) :
    BdM base bb s mb V S N m n f (.slice (some ⟨g, 0, none⟩) k c) row2 (w5.setCell ⟨bb, 2, none⟩ (.slice (some ⟨g, 0, none⟩) k c)) ∧ KAS A s w (w5.setCell ⟨bb, 2, none⟩ (.slice (some ⟨g, 0, none⟩) k c)) := by
  have hlo := hM.lo
  rw [hr2] at hg hor
  have hs : w.heap.size ≤ w5.heap.size := Nat.le_trans hka.size hg.size
  have h5 : ∀ k, k < w.heap.size → rv.ownBlock ≠ some k → w5.heap[k]? = w.heap[k]? := fun k hk hn => (hg.block k (Nat.lt_of_lt_of_le hk hka.size) (fun e => hn e.symm)).trans (hka.2.2.2.2 k hk)
  have hown : ∀ d, rv.ownBlock = some d → base ≤ d ∧ d < w.heap.size := hM.rl.lt'
  have hgl := (Array.getElem?_eq_some_iff.1 hM.box).1
  have hbox := (h5 bb hgl (fun e => by have := (hown bb e).1; omega)).trans hM.box
  have hC : ∀ k', k' < w.heap.size → k' ≠ bb → rv.ownBlock ≠ some k' → (w5.setCell ⟨bb, 2, none⟩ (.slice (some ⟨g, 0, none⟩) k c)).heap[k']? = w.heap[k']? := fun k hk hn1 hn2 => (Below.heap_setCell _ _ _ _ hn1).trans (h5 k hk hn2)
  have hsz : (w5.setCell ⟨bb, 2, none⟩ (.slice (some ⟨g, 0, none⟩) k c)).heap.size = w5.heap.size := by simp [World.setCell]
  have hgk : ∀ k', k' < w.heap.size → rv.ownBlock ≠ some k' → g ≠ k' := fun k' hk hn e => by
    rcases hor with h | h
    · exact hn (by rw [h, e])
    · have := hka.size; omega
  have hx : KX V w (w5.setCell ⟨bb, 2, none⟩ (.slice (some ⟨g, 0, none⟩) k c)) := ⟨by omega, fun k' hk => by obtain ⟨a1, a2, a3, a4, a5⟩ := hM.vs k' hk; exact hC k' a1 a2 a5⟩
  refine ⟨⟨(set3g hbox _).2, ?_, ?_, ?_, by omega, fun k' hk => ?_, fun b hb => (hM.nd b hb).kx hx, hsub⟩, ?_⟩
  · exact (hC s hM.st.lt hlo.2.2.2.1 (fun e => by have := (hown s e).1; omega)).trans hM.st
  · exact hM.mp.same (hC mb hM.mp.lt hlo.2.2.2.2.1 (fun e => by have := (hown mb e).1; omega))
  · exact hO.same (fun d hd => Below.heap_setCell _ _ _ _ (by have h9 := (hO.lt' d hd).1; show d ≠ bb; omega))
  · obtain ⟨a1, a2, a3, a4, a5⟩ := hM.vs k' hk
    refine ⟨by omega, a2, a3, a4, fun e => ?_⟩
    simp only [Value.ownBlock, Option.some.injEq] at e
    exact hgk k' a1 a5 e
  · refine ⟨hg.os.trans hka.1, hg.tape.trans hka.2.1, hg.output.trans hka.2.2.1, by omega, fun k' hk hn => hC k' (by omega) (by omega) (fun e => by have := (hown k' e).1; omega)⟩
end
/-- What a step of a builder leaves. -/
def BdR (base bb s mb A : Nat) (V : Nat → Prop) (S : List Nat) (N : Nat → Nd) (m n : Nat) (f : Int → Option Nat) (row : List Nat) (w w' : World) : Prop := ∃ rv, BdM base bb s mb V S N m n f rv row w' ∧ KAS A s w w'
set_option linter.unusedSimpArgs false in
set_option maxRecDepth 100000 in
set_option maxHeartbeats 4000000 in
theorem keepB_ok (base bb s mb A : Nat) (V : Nat → Prop) (S : List Nat) (N : Nat → Nd) (m n : Nat) (f : Int → Option Nat) (rv : Value) (row : List Nat) (w : World) (hM : BdM base bb s mb V S N m n f rv row w) (id : Int) (c : Nat) (hf : f id = some c) (hfit : fits id) (hc : c ∈ S) (hl : row.length ≤ 4194304) (hA : A ≤ bb) :
    Calls Try.prog 36 #[.pointer (some ⟨bb, 0, none⟩), .int .i64 id] w fun e w' => e = .returned (.int .i64 0) ∧ BdR base bb s mb A V S N m n f (row ++ [c]) w w' := by
  obtain ⟨k, hk⟩ : ∃ k, row.length = k := ⟨_, rfl⟩
  obtain ⟨ra, rc, rfl⟩ : ∃ a c, rv = .slice a k c := by rw [← hk]; exact hM.rl.form
  have q1 : w.cell? ⟨bb, 1, none⟩ = some (.map (some mb)) := by simp [World.cell?, hM.box]
  have q2 : w.cell? ⟨bb, 2, none⟩ = some (.slice ra k rc) := by simp [World.cell?, hM.box]
  have hlk := hM.mp.look hfit
  rw [hf] at hlk
  simp only [Option.map_some, Option.isSome_some] at hlk
  have HM := hide1 hM
  have HK := hide1 hk
  have HC := hide1 hc
  have hkI : (k : Int) ≤ 4194304 := by omega
  have hbl := (Array.getElem?_eq_some_iff.1 hM.box).1
  have hbs := hM.lo.2.2.2.2.2.2
  have hbb := hM.lo.1
  clear hM hk hc hf hl
  go_enter Try.func36, Try.ntmps36
  go_wp2_with (at_builtin; refine wpl_lo (E := ndE) rfl _ _ rfl base (.slice ra k rc) row k HK.out rfl (HM.out.rl.keep ((Kept.refl w).alloc _ _)) w.heap.size c rfl (World.alloc_heap_new w _) (by show (k + 1) * 8 ≤ 140737488355328; omega) (by unfold maxLen; omega) (Nat.le_trans hbs (alloc_le w _)) ?_; intro g5 c5 w5 ho5 hg5 hor5 hl5; have hx5 := (hg5.block bb (Nat.lt_of_lt_of_le hbl (alloc_le w _)) (fun e => by have := (HM.out.rl.lt' bb e.symm).1; omega)).trans ((heap_alloc_old w _ hbl).trans HM.out.box); have y1 : w5.cell? ⟨bb, 2, none⟩ = some (.slice ra k rc) := (by simp [World.cell?, hx5]); have f1 : w5.frozen? ⟨bb, 2, none⟩ = false := (by simp [World.frozen?, hx5]); have HO5 := hide1 ho5; have HG5 := hide1 hg5; have HOR5 := hide1 hor5; clear ho5 hg5 hor5 hl5 hx5)
  go_ret
  exact ⟨rfl, _, bd_row HM.out rfl ((Kept.refl w).alloc _ _) HO5.out HG5.out HOR5.out (fun b hb => by
    rcases List.mem_append.1 hb with h | h
    · exact HM.out.sub b h
    · rw [List.mem_singleton.1 h]; exact HC.out) hA⟩

end Tr
end Ex
end Go.Proofs.Yteckbpmliahhhaa
namespace Go.Proofs.Yteckbpmliahhhaa
open Go.RowKit Go.Maps
attribute [local go_sem] Oper.semAt_some
namespace Ex
namespace Tr

/-- What a node that is made leaves. -/
def BdN (base bb s mb A : Nat) (S : List Nat) (N : Nat → Nd) (m n : Nat) (f : Int → Option Nat) (Y : Nd) (r0 : List Nat) (w w' : World) : Prop := ∃ V b, b ∉ S ∧ w.heap.size ≤ b ∧ BdR base bb s mb A V (S ++ [b]) (fun d => if d = b then Y else N d) (m + 1) n f (r0 ++ [b]) w w'
set_option linter.unusedSimpArgs false in
set_option maxRecDepth 100000 in
set_option maxHeartbeats 4000000 in
theorem joinB_ok (base bb s mb A : Nat) (V : Nat → Prop) (S : List Nat) (N : Nat → Nd) (m n : Nat) (f : Int → Option Nat) (rv : Value) (r0 ks : List Nat) (w : World) (hM : BdM base bb s mb V S N m n f rv (r0 ++ ks) w) (kd nn : Int) (hok : ∀ b ∈ ks, NdOk (N b) ∧ (N b).st = s) (hm : m ≤ 4611686018427387904) (hmay : mayP kd nn = true) (hz : 1 + sizeS N ks ≤ 4194304) (hl : (r0 ++ ks).length ≤ 4194304) (hA : A ≤ bb) (hAs : A ≤ w.heap.size) :
    Calls Try.prog 37 #[.pointer (some ⟨bb, 0, none⟩), .int .i64 kd, .int .i64 nn, .int .i64 (ks.length : Int)] w fun e w' => e = .returned (.int .i64 0) ∧ BdN base bb s mb A S N m n f (makeN N s m kd nn ks) r0 w w' := by
  obtain ⟨k, hk⟩ : ∃ k, ks.length = k := ⟨_, rfl⟩
  obtain ⟨fr, hfr⟩ : ∃ fr, r0.length = fr := ⟨_, rfl⟩
  obtain ⟨L, hL⟩ : ∃ L, (r0 ++ ks).length = L := ⟨_, rfl⟩
  have hLk : L = fr + k := by rw [← hL, List.length_append, hfr, hk]
  obtain ⟨ra, rc, rfl⟩ : ∃ a c, rv = .slice a L c := by rw [← hL]; exact hM.rl.form
  have hcap := hM.rl.cap
  rw [hL] at hcap hl
  have q0 : w.cell? ⟨bb, 0, none⟩ = some (.pointer (some ⟨s, 0, none⟩)) := by simp [World.cell?, hM.box]
  have q2 : w.cell? ⟨bb, 2, none⟩ = some (.slice ra L rc) := by simp [World.cell?, hM.box]
  have hlo := hM.lo
  have hbs : bb ≠ s := Ne.symm hlo.2.2.2.1
  have k0 := keepsB hbs q0
  have k2 := keepsB hbs q2
  have hkr : KeptBut s w w := (Kept.refl w).tbut s
  have HM := hide1 hM
  have HK := hide1 hk
  have HFR := hide1 hfr
  have HOK := hide1 hok
  have HMK : Hid (∀ W v', Kept w W → PtrsN W v' ks → Calls Try.prog 16 #[.pointer (some ⟨s, 0, none⟩), .int .i64 kd, .int .i64 nn, v'] W fun e w' => ∃ b, e = .returned (.tuple #[.pointer (some ⟨b, 0, none⟩), .int .i64 0]) ∧ W.heap.size ≤ b ∧ KeptBut s W w' ∧ StoreAt w' s (m + 1) ∧ NodeAt w'.heap.size w' b (makeN N s m kd nn ks) ∧ RowLow W.heap.size w' b) := fun W v' hW hv => by
    have hMW := hM.keep hW
    exact make_okN N W.heap.size s m kd nn ks v' W hMW.st hv (fun b hb => (hMW.nd b (hMW.sub b (List.mem_append_right _ hb))).at (fun k hk => (hMW.vs k hk).1)) (Nat.le_refl _) (fun b hb => (hok b hb).1) hm hmay (by unfold ownP; rw [List.all_eq_true]; intro b hb; simpa using (hok b hb).2) hz
  have HPT : Hid (∀ W, Kept w W → ∀ (g o c' : Nat), ra = some ⟨g, 0, none⟩ → o = fr → PtrsN W (.slice (some ⟨g, o, none⟩) k c') ks) := fun W hW g o c' hg ho => by
    subst ho
    have ho := (hM.keep hW).rl
    rw [hg] at ho
    refine ⟨some ⟨g, o, none⟩, c', by rw [hk], by omega, fun i b hi => ⟨g, o, rfl, ?_⟩⟩
    have h1 := ho.cell (i := o + i) (j := 0) (x := b) (u := .pointer (some ⟨b, 0, none⟩)) (by rw [← hfr, List.getElem?_append_right (by omega)]; simpa using hi) rfl
    rw [show (o + i) * ndE.sz + 0 = o + i from by show (o + i) * 1 + 0 = o + i; omega] at h1
    exact h1
  have HP0 : Hid (∀ W, k = 0 → ∀ (a' : Option Addr) (c' : Nat), PtrsN W (.slice a' 0 c') ks) := fun W h0 a' c' => ⟨a', c', by rw [hk, h0], by omega, fun i b hi => by have h9 := (List.getElem?_eq_some_iff.1 hi).1; omega⟩
  have hLI : (L : Int) ≤ 4194304 := by omega
  have hkI : (k : Int) ≤ (L : Int) := by omega
  have hfI : (L : Int) - (k : Int) = (fr : Int) := by omega
  have hfL : (fr : Int) ≤ (L : Int) := by omega
  have hcI : (L : Int) ≤ (rc : Int) := by omega
  have hfc : (fr : Int) ≤ (rc : Int) := by omega
  rw [hk]
  have hnil := hM.rl.2
  have HLK := hide1 hLk
  clear hLk
  clear hM hk hfr hok hL hm hmay hz
  rcases hnil with ⟨h0, _⟩ | ⟨g, cap, cur, h0, _⟩
  · injection h0 with e1 e2 e3
    subst e1 e2 e3
    obtain rfl : k = 0 := by have := HLK.out; omega
    obtain rfl : fr = 0 := by have := HLK.out; omega
    clear hfI hkI hfL hfc hcI hcap hLI hl
    go_enter Try.func37, Try.ntmps37
    go_upto_region 4 with fail
    go_region_held3 (fun w' => KeptBut s w w') (first | assumption | exact (Kept.refl _).tbut _ | exact (drew_kept _).tbut _)
      ((go_at_call 16; refine (HMK.out _ _ (by first | exact drew_kept _ | exact Kept.refl _) (HP0.out _ rfl none 0)).mono ?_; rintro e w3 ⟨b, rfl, hb2, hk2, hs2, hn2, hr2⟩; have k3 : KeptBut s w w3 := KeptBut.trans (by assumption) hk2; have hb2' : w.heap.size ≤ b := hb2; have hr2' : RowLow w.heap.size w3 b := hr2; clear hr2 hb2))
    have y2 := k2 w3 k3
    have HM3 := hide1 (HM.out.but (Vb := fun k => w.heap.size ≤ k ∧ k < w3.heap.size) k3 hs2 (fun k hk => hk) (ndV_of hn2 hb2' (Or.inl hr2')))
    have HK3 := hide1 k3
    have HB2 := hide1 hb2'
    have hbl3 : bb < w3.heap.size := (Array.getElem?_eq_some_iff.1 HM3.out.box).1
    have hbs3 := HM3.out.lo.2.2.2.2.2.2
    have hbb3 := HM3.out.lo.1
    have HRL : Hid (LO ndE w3 base (.slice none 0 0) r0) := by
      have h9 := HM3.out.rl.take (k := r0.length) (by rw [List.length_append]; omega)
      rw [List.take_left, HFR.out] at h9
      exact h9
    clear k0 k2 hkr hk2 hs2 hn2 hr2' hb2' k3 q0 q2 HMK
    go_wp2_with (at_builtin; refine wpl_lo (E := ndE) rfl _ _ rfl base (.slice none 0 0) r0 0 HFR.out rfl (HRL.out.keep ((Kept.refl w3).alloc _ _)) w3.heap.size b rfl (World.alloc_heap_new w3 _) (by show (0 + 1) * 8 ≤ 140737488355328; omega) (by unfold maxLen; omega) (Nat.le_trans hbs3 (alloc_le w3 _)) ?_; intro g5 c5 w5 ho5 hg5 hor5 hl5; have hx5 := (hg5.block bb (Nat.lt_of_lt_of_le hbl3 (alloc_le w3 _)) (fun e => by have := (HRL.out.lt' bb e.symm).1; omega)).trans ((heap_alloc_old w3 _ hbl3).trans HM3.out.box); have y1 : w5.cell? ⟨bb, 2, none⟩ = some (.slice none 0 0) := (by simp [World.cell?, hx5]); have f1 : w5.frozen? ⟨bb, 2, none⟩ = false := (by simp [World.frozen?, hx5]); have HO5 := hide1 ho5; have HG5 := hide1 hg5; have HOR5 := hide1 hor5; clear ho5 hg5 hor5 hl5 hx5)
    go_ret
    have hfin := bd_row HM3.out (rv2 := .slice none 0 0) rfl ((Kept.refl w3).alloc _ _) HO5.out HG5.out HOR5.out (fun d hd => by
      rcases List.mem_append.1 hd with h | h
      · exact List.mem_append_left _ (HM.out.sub d (List.mem_append_left _ h))
      · exact List.mem_append_right _ h) hA
    exact ⟨rfl, _, b, (fun e => by have h1 := (HM.out.vs b (HM.out.nd b e).1).1; have h2 := HB2.out; omega), HB2.out, _, hfin.1, (HK3.out.kas hAs).trans hfin.2⟩
  · injection h0 with e1 e2 e3
    subst e1
    clear e2 e3
    by_cases hrc : fr = rc
    · subst hrc
      obtain rfl : L = fr := by have := HLK.out; omega
      obtain rfl : k = 0 := by have := HLK.out; omega
      clear hfI hkI hfL hcap hcI hfc
      go_enter Try.func37, Try.ntmps37
      go_upto_region 4 with fail
      go_region_held3 (fun w' => KeptBut s w w') (first | assumption | exact (Kept.refl _).tbut _ | exact (drew_kept _).tbut _)
        ((go_at_call 16; refine (HMK.out _ _ (by first | exact drew_kept _ | exact Kept.refl _) (HP0.out _ rfl _ _)).mono ?_; rintro e w3 ⟨b, rfl, hb2, hk2, hs2, hn2, hr2⟩; have k3 : KeptBut s w w3 := KeptBut.trans (by assumption) hk2; have hb2' : w.heap.size ≤ b := hb2; have hr2' : RowLow w.heap.size w3 b := hr2; clear hr2 hb2))
      have y2 := k2 w3 k3
      have HM3 := hide1 (HM.out.but (Vb := fun k => w.heap.size ≤ k ∧ k < w3.heap.size) k3 hs2 (fun k hk => hk) (ndV_of hn2 hb2' (Or.inl hr2')))
      have HK3 := hide1 k3
      have HB2 := hide1 hb2'
      have hbl3 : bb < w3.heap.size := (Array.getElem?_eq_some_iff.1 HM3.out.box).1
      have hbs3 := HM3.out.lo.2.2.2.2.2.2
      have hbb3 := HM3.out.lo.1
      have HRL : Hid (LO ndE w3 base (.slice (some ⟨g, 0, none⟩) L L) r0) := by
        have h9 := HM3.out.rl.take (k := r0.length) (by rw [List.length_append]; omega)
        rw [List.take_left, HFR.out] at h9
        exact h9
      clear k0 k2 hkr hk2 hs2 hn2 hr2' hb2' k3 q0 q2 HMK
      go_wp2_with (at_builtin; refine wpl_lo (E := ndE) rfl _ _ rfl base (.slice (some ⟨g, 0, none⟩) L L) r0 L HFR.out rfl (HRL.out.keep ((Kept.refl w3).alloc _ _)) w3.heap.size b rfl (World.alloc_heap_new w3 _) (by show (L + 1) * 8 ≤ 140737488355328; omega) (by unfold maxLen; omega) (Nat.le_trans hbs3 (alloc_le w3 _)) ?_; intro g5 c5 w5 ho5 hg5 hor5 hl5; have hx5 := (hg5.block bb (Nat.lt_of_lt_of_le hbl3 (alloc_le w3 _)) (fun e => by have := (HRL.out.lt' bb e.symm).1; omega)).trans ((heap_alloc_old w3 _ hbl3).trans HM3.out.box); have y1 : w5.cell? ⟨bb, 2, none⟩ = some (.slice (some ⟨g, 0, none⟩) L L) := (by simp [World.cell?, hx5]); have f1 : w5.frozen? ⟨bb, 2, none⟩ = false := (by simp [World.frozen?, hx5]); have HO5 := hide1 ho5; have HG5 := hide1 hg5; have HOR5 := hide1 hor5; clear ho5 hg5 hor5 hl5 hx5)
      go_ret
      have hfin := bd_row HM3.out (rv2 := .slice (some ⟨g, 0, none⟩) L L) rfl ((Kept.refl w3).alloc _ _) HO5.out HG5.out HOR5.out (fun d hd => by
        rcases List.mem_append.1 hd with h | h
        · exact List.mem_append_left _ (HM.out.sub d (List.mem_append_left _ h))
        · exact List.mem_append_right _ h) hA
      exact ⟨rfl, _, b, (fun e => by have h1 := (HM.out.vs b (HM.out.nd b e).1).1; have h2 := HB2.out; omega), HB2.out, _, hfin.1, (HK3.out.kas hAs).trans hfin.2⟩
    · have hne1 : ¬ rc - fr = 0 := by omega
      have hne2 : ¬ rc = fr := by omega
      have hne3 : ¬ (rc : Int) = (fr : Int) := by omega
      have hlt : fr < rc := by omega
      have hltI : (fr : Int) < (rc : Int) := by omega
      have hLf : L - fr = k := by have := HLK.out; omega
      have hf0 : (0 : Int) ≤ (fr : Int) := by omega
      go_enter Try.func37, Try.ntmps37
      go_upto_region 4 with fail
      go_region_held3 (fun w' => KeptBut s w w') (first | assumption | exact (Kept.refl _).tbut _ | exact (drew_kept _).tbut _)
        ((go_at_call 16; refine (HMK.out _ _ (by first | exact drew_kept _ | exact Kept.refl _) (HPT.out _ (by first | exact drew_kept _ | exact Kept.refl _) g _ _ rfl (by first | rfl | simp))).mono ?_; rintro e w3 ⟨b, rfl, hb2, hk2, hs2, hn2, hr2⟩; have k3 : KeptBut s w w3 := KeptBut.trans (by assumption) hk2; have hb2' : w.heap.size ≤ b := hb2; have hr2' : RowLow w.heap.size w3 b := hr2; clear hr2 hb2))
      have y2 := k2 w3 k3
      have HM3 := hide1 (HM.out.but (Vb := fun k => w.heap.size ≤ k ∧ k < w3.heap.size) k3 hs2 (fun k hk => hk) (ndV_of hn2 hb2' (Or.inl hr2')))
      have HK3 := hide1 k3
      have HB2 := hide1 hb2'
      have hbl3 : bb < w3.heap.size := (Array.getElem?_eq_some_iff.1 HM3.out.box).1
      have hbs3 := HM3.out.lo.2.2.2.2.2.2
      have hbb3 := HM3.out.lo.1
      have HRL : Hid (LO ndE w3 base (.slice (some ⟨g, 0, none⟩) fr rc) r0) := by
        have h9 := HM3.out.rl.take (k := r0.length) (by rw [List.length_append]; omega)
        rw [List.take_left, HFR.out] at h9
        exact h9
      clear k0 k2 hkr hk2 hs2 hn2 hr2' hb2' k3 q0 q2 HMK
      go_wp2_with (at_builtin; refine wpl_lo (E := ndE) rfl _ _ rfl base (.slice (some ⟨g, 0, none⟩) fr rc) r0 fr HFR.out rfl (HRL.out.keep ((Kept.refl w3).alloc _ _)) w3.heap.size b rfl (World.alloc_heap_new w3 _) (by show (fr + 1) * 8 ≤ 140737488355328; omega) (by unfold maxLen; omega) (Nat.le_trans hbs3 (alloc_le w3 _)) ?_; intro g5 c5 w5 ho5 hg5 hor5 hl5; have hx5 := (hg5.block bb (Nat.lt_of_lt_of_le hbl3 (alloc_le w3 _)) (fun e => by have := (HRL.out.lt' bb e.symm).1; omega)).trans ((heap_alloc_old w3 _ hbl3).trans HM3.out.box); have y1 : w5.cell? ⟨bb, 2, none⟩ = some (.slice (some ⟨g, 0, none⟩) L rc) := (by simp [World.cell?, hx5]); have f1 : w5.frozen? ⟨bb, 2, none⟩ = false := (by simp [World.frozen?, hx5]); have HO5 := hide1 ho5; have HG5 := hide1 hg5; have HOR5 := hide1 hor5; clear ho5 hg5 hor5 hl5 hx5)
      go_ret
      have hfin := bd_row HM3.out (rv2 := .slice (some ⟨g, 0, none⟩) fr rc) rfl ((Kept.refl w3).alloc _ _) HO5.out HG5.out HOR5.out (fun d hd => by
        rcases List.mem_append.1 hd with h | h
        · exact List.mem_append_left _ (HM.out.sub d (List.mem_append_left _ h))
        · exact List.mem_append_right _ h) hA
      exact ⟨rfl, _, b, (fun e => by have h1 := (HM.out.vs b (HM.out.nd b e).1).1; have h2 := HB2.out; omega), HB2.out, _, hfin.1, (HK3.out.kas hAs).trans hfin.2⟩

end Tr
end Ex
end Go.Proofs.Yteckbpmliahhhaa
namespace Go.Proofs.Yteckbpmliahhhaa
open Go.RowKit Go.Maps
attribute [local go_sem] Oper.semAt_some
namespace Ex
namespace Tr

theorem BdR.from {base bb s mb A : Nat} {V : Nat → Prop} {S : List Nat} {N : Nat → Nd} {m n : Nat} {f : Int → Option Nat} {row : List Nat} {u w w' : World} (h : BdR base bb s mb A V S N m n f row w w') (k : KAS A s u w) : BdR base bb s mb A V S N m n f row u w' := by
  obtain ⟨rv, h1, h2⟩ := h
  exact ⟨rv, h1, k.trans h2⟩
theorem BdN.from {base bb s mb A : Nat} {S : List Nat} {N : Nat → Nd} {m n : Nat} {f : Int → Option Nat} {Y : Nd} {r0 : List Nat} {u w w' : World} (h : BdN base bb s mb A S N m n f Y r0 w w') (k : KAS A s u w) : BdN base bb s mb A S N m n f Y r0 u w' := by
  obtain ⟨V, b, h1, h2, h3⟩ := h
  exact ⟨V, b, h1, Nat.le_trans k.2.2.2.1 h2, h3.from k⟩
section
variable (base bb s mb A : Nat) (V : Nat → Prop) (S : List Nat) (N : Nat → Nd) (m n : Nat) (f : Int → Option Nat) (rv : Value)
set_option linter.unusedSimpArgs false in
set_option maxRecDepth 100000 in
set_option maxHeartbeats 4000000 in
theorem doB_keep (row : List Nat) (w : World) (hM : BdM base bb s mb V S N m n f rv row w) (id : Int) (c : Nat) (hf : f id = some c) (hfit : fits id) (hc : c ∈ S) (hl : row.length ≤ 4194304) (hA : A ≤ bb) (hAs : A ≤ w.heap.size) :
    Calls Try.prog 20 #[.pointer (some ⟨bb, 0, none⟩), .agg #[.int .i64 1, .int .i64 id, .int .i64 0, .int .i64 0, .int .i64 0, .int .i64 0, .int .i64 0, .int .i64 0, .int .i64 0]] w fun e w' => e = .returned (.int .i64 0) ∧ BdR base bb s mb A V S N m n f (row ++ [c]) w w' := by
  have HKP := hide1 (fun W (hW : Kept w W) => keepB_ok base bb s mb A V S N m n f rv row W (hM.keep hW) id c hf hfit hc hl hA)
  clear hM hf hfit hc hl
  go_enter Try.func20, Try.ntmps20
  go_wp2_with (go_at_call 36; refine (HKP.out _ ((Kept.refl w).alloc _ _)).mono ?_; rintro e w2 ⟨rfl, h2⟩; have H2 := hide1 h2; clear h2)
  go_ret
  exact ⟨rfl, H2.out.from (((Kept.refl w).alloc _ _).kas s hAs)⟩
set_option linter.unusedSimpArgs false in
set_option maxRecDepth 100000 in
set_option maxHeartbeats 4000000 in
theorem doB_make (r0 ks : List Nat) (w : World) (hM : BdM base bb s mb V S N m n f rv (r0 ++ ks) w) (kd nn : Int) (hok : ∀ b ∈ ks, NdOk (N b) ∧ (N b).st = s) (hm : m ≤ 4611686018427387904) (hmay : mayP kd nn = true) (hz : 1 + sizeS N ks ≤ 4194304) (hl : (r0 ++ ks).length ≤ 4194304) (hA : A ≤ bb) (hAs : A ≤ w.heap.size) :
    Calls Try.prog 20 #[.pointer (some ⟨bb, 0, none⟩), .agg #[.int .i64 3, .int .i64 0, .int .i64 kd, .int .i64 nn, .int .i64 (ks.length : Int), .int .i64 0, .int .i64 0, .int .i64 0, .int .i64 0]] w fun e w' => e = .returned (.int .i64 0) ∧ BdN base bb s mb A S N m n f (makeN N s m kd nn ks) r0 w w' := by
  have HJ := hide1 (fun W (hW : Kept w W) => joinB_ok base bb s mb A V S N m n f rv r0 ks W (hM.keep hW) kd nn hok hm hmay hz hl hA (Nat.le_trans hAs hW.size))
  obtain ⟨k, hk⟩ : ∃ k, ks.length = k := ⟨_, rfl⟩
  rw [hk] at HJ ⊢
  clear hM hok hm hmay hz hl hk
  go_enter Try.func20, Try.ntmps20
  go_wp2_with (go_at_call 37; refine (HJ.out _ ((Kept.refl w).alloc _ _)).mono ?_; rintro e w2 ⟨rfl, h2⟩; have H2 := hide1 h2; clear h2)
  go_ret
  exact ⟨rfl, H2.out.from (((Kept.refl w).alloc _ _).kas s hAs)⟩
end

end Tr
end Ex
end Go.Proofs.Yteckbpmliahhhaa
namespace Go.Proofs.Yteckbpmliahhhaa
open Go.RowKit Go.Maps
attribute [local go_sem] Oper.semAt_some
namespace Ex
namespace Tr

/-- What the region of a leaf's step reads besides the row. -/
def LfS (bb s xb : Nat) (l0 l1 l2 l3 : Int) (X : World) : Prop := X.cell? ⟨bb, 0, none⟩ = some (.pointer (some ⟨s, 0, none⟩)) ∧ X.cell? ⟨xb, 5, none⟩ = some (.int .i64 l0) ∧ X.cell? ⟨xb, 6, none⟩ = some (.int .i64 l1) ∧ X.cell? ⟨xb, 7, none⟩ = some (.int .i64 l2) ∧ X.cell? ⟨xb, 8, none⟩ = some (.int .i64 l3)
theorem LfS.but {bb s xb : Nat} {l0 l1 l2 l3 : Int} {X Y : World} (h : LfS bb s xb l0 l1 l2 l3 X) {d : Nat} (hk : KeptBut d X Y) (h1 : bb ≠ d) (h2 : xb ≠ d) : LfS bb s xb l0 l1 l2 l3 Y := ⟨hk.cell h1 h.1, hk.cell h2 h.2.1, hk.cell h2 h.2.2.1, hk.cell h2 h.2.2.2.1, hk.cell h2 h.2.2.2.2⟩
theorem LfS.keep {bb s xb : Nat} {l0 l1 l2 l3 : Int} {X Y : World} (h : LfS bb s xb l0 l1 l2 l3 X) (hk : Kept X Y) : LfS bb s xb l0 l1 l2 l3 Y := ⟨grown_cell hk h.1, grown_cell hk h.2.1, grown_cell hk h.2.2.1, grown_cell hk h.2.2.2.1, grown_cell hk h.2.2.2.2⟩
theorem LfS.grown {bb s xb : Nat} {l0 l1 l2 l3 : Int} {X Y : World} (h : LfS bb s xb l0 l1 l2 l3 X) {o : Option Nat} (hg : X.grownBy Y o) (hb : bb < X.heap.size) (hx : xb < X.heap.size) (h1 : o ≠ some bb) (h2 : o ≠ some xb) : LfS bb s xb l0 l1 l2 l3 Y := by
  have e1 := hg.block bb hb (fun e => h1 e.symm)
  have e2 := hg.block xb hx (fun e => h2 e.symm)
  exact ⟨(World.cell?_of_block (w := X) (a := ⟨bb, 0, none⟩) e1).trans h.1, (World.cell?_of_block (w := X) (a := ⟨xb, 5, none⟩) e2).trans h.2.1, (World.cell?_of_block (w := X) (a := ⟨xb, 6, none⟩) e2).trans h.2.2.1, (World.cell?_of_block (w := X) (a := ⟨xb, 7, none⟩) e2).trans h.2.2.2.1, (World.cell?_of_block (w := X) (a := ⟨xb, 8, none⟩) e2).trans h.2.2.2.2⟩
set_option linter.unusedSimpArgs false in
set_option maxRecDepth 100000 in
set_option maxHeartbeats 8000000 in
theorem doB_leaf (base bb s mb A : Nat) (V : Nat → Prop) (S : List Nat) (N : Nat → Nd) (m n : Nat) (f : Int → Option Nat) (rv : Value) (row : List Nat) (w : World) (hM : BdM base bb s mb V S N m n f rv row w) (l0 l1 l2 l3 : Int) (hm : m ≤ 4611686018427387904) (hl : row.length ≤ 4194304) (hA : A ≤ bb) (hAs : A ≤ w.heap.size) :
    Calls Try.prog 20 #[.pointer (some ⟨bb, 0, none⟩), .agg #[.int .i64 2, .int .i64 0, .int .i64 0, .int .i64 0, .int .i64 0, .int .i64 l0, .int .i64 l1, .int .i64 l2, .int .i64 l3]] w fun e w' => e = .returned (.int .i64 0) ∧ BdN base bb s mb A S N m n f (leafN s m l0 l1 l2 l3) row w w' := by
  obtain ⟨k, hk⟩ : ∃ k, row.length = k := ⟨_, rfl⟩
  obtain ⟨ra, rc, rfl⟩ : ∃ a c, rv = .slice a k c := by rw [← hk]; exact hM.rl.form
  have HM := hide1 hM
  have HK := hide1 hk
  have hkI : (k : Int) ≤ 4194304 := by omega
  have hmI := hm
  clear hM hk hl
  go_enter Try.func20, Try.ntmps20
  go_upto_region 5 with fail
  obtain ⟨xb, hxb⟩ : ∃ xb, w.heap.size = xb := ⟨_, rfl⟩
  obtain ⟨wx, hwx⟩ : ∃ wx, w.alloc (.cells #[.int .i64 2, .int .i64 0, .int .i64 0, .int .i64 0, .int .i64 0, .int .i64 l0, .int .i64 l1, .int .i64 l2, .int .i64 l3] 39) = wx := ⟨_, rfl⟩
  have hkX : Kept w wx := by rw [← hwx]; exact (Kept.refl w).alloc _ _
  have hXB : wx.heap[xb]? = some (.cells #[.int .i64 2, .int .i64 0, .int .i64 0, .int .i64 0, .int .i64 0, .int .i64 l0, .int .i64 l1, .int .i64 l2, .int .i64 l3] 39 (0, 0)) := by rw [← hwx, ← hxb]; exact World.alloc_heap_new w _
  have HMX := hide1 (HM.out.keep hkX)
  have hlo := HM.out.lo
  have hbX := HMX.out.box
  have hbs : bb ≠ s := by omega
  have hxs : xb ≠ s := by omega
  have hxl : xb < wx.heap.size := (Array.getElem?_eq_some_iff.1 hXB).1
  have hbl : bb < wx.heap.size := (Array.getElem?_eq_some_iff.1 hbX).1
  have hbxb : bb ≠ xb := by omega
  have hS : LfS bb s xb l0 l1 l2 l3 wx := by
    refine ⟨?_, ?_, ?_, ?_, ?_⟩
    · simp [World.cell?, hbX]
    all_goals simp [World.cell?, hXB]
  have HS := hide1 hS
  have HKX := hide1 hkX
  have HXW : Hid (w.heap.size = xb ∧ base ≤ xb) := ⟨hxb, by omega⟩
  rw [hwx, hxb]
  clear hwx hxb hkX hXB hbX hS hlo
  have q2 : wx.cell? ⟨bb, 2, none⟩ = some (.slice ra k rc) := by simp [World.cell?, HMX.out.box]
  refine wp_region_held_drew (S := fun X => LfS bb s xb l0 l1 l2 l3 X) (by kernel_rfl) HS.out (fun hHeld => ?_)
  refine wpAnyH_take (i := 0) (v := .pointer (some ⟨bb, 0, none⟩)) rfl (by kernel_rfl) (by kernel_rfl) (by kernel_rfl) (fun _ _ _ h => h) (Or.inl ⟨by rfl, fun w' hSw => ?_⟩) (by with_reducible assumption) ?_
  · clear hSw
    go_simp
  try simp only [Act.put, List.setIfInBounds_toArray, List.set_cons_zero, List.set_cons_succ]
  refine wpAnyH_take (i := 1) (v := .pointer (some ⟨bb, 0, none⟩)) rfl (by kernel_rfl) (by kernel_rfl) (by kernel_rfl) (fun _ _ _ h => h) (Or.inl ⟨by rfl, fun w' hSw => ?_⟩) (by with_reducible assumption) ?_
  · clear hSw
    go_simp
  try simp only [Act.put, List.setIfInBounds_toArray, List.set_cons_zero, List.set_cons_succ]
  refine wpAnyH_take (i := 2) (v := .pointer (some ⟨bb, 0, none⟩)) rfl (by kernel_rfl) (by kernel_rfl) (by kernel_rfl) (fun _ _ _ h => h) (Or.inl ⟨by rfl, fun w' hSw => ?_⟩) (by with_reducible assumption) ?_
  · clear hSw
    go_simp
  try simp only [Act.put, List.setIfInBounds_toArray, List.set_cons_zero, List.set_cons_succ]
  refine wpAnyH_take (i := 3) (v := .pointer (some ⟨bb, 2, none⟩)) rfl (by kernel_rfl) (by kernel_rfl) (by kernel_rfl) (fun _ _ _ h => h) (Or.inl ⟨by rfl, fun w' hSw => ?_⟩) (by with_reducible assumption) ?_
  · clear hSw
    go_simp
  try simp only [Act.put, List.setIfInBounds_toArray, List.set_cons_zero, List.set_cons_succ]
  refine wpAnyH_take (i := 5) (v := .pointer (some ⟨bb, 0, none⟩)) rfl (by kernel_rfl) (by kernel_rfl) (by kernel_rfl) (fun _ _ _ h => h) (Or.inl ⟨by rfl, fun w' hSw => ?_⟩) (by with_reducible assumption) ?_
  · clear hSw
    go_simp
  try simp only [Act.put, List.setIfInBounds_toArray, List.set_cons_zero, List.set_cons_succ]
  refine wpAnyH_take (i := 6) (v := .pointer (some ⟨bb, 0, none⟩)) rfl (by kernel_rfl) (by kernel_rfl) (by kernel_rfl) (fun _ _ _ h => h) (Or.inl ⟨by rfl, fun w' hSw => ?_⟩) (by with_reducible assumption) ?_
  · clear hSw
    go_simp
  try simp only [Act.put, List.setIfInBounds_toArray, List.set_cons_zero, List.set_cons_succ]
  refine wpAnyH_take (i := 7) (v := .pointer (some ⟨bb, 0, none⟩)) rfl (by kernel_rfl) (by kernel_rfl) (by kernel_rfl) (fun _ _ _ h => h) (Or.inl ⟨by rfl, fun w' hSw => ?_⟩) (by with_reducible assumption) ?_
  · clear hSw
    go_simp
  try simp only [Act.put, List.setIfInBounds_toArray, List.set_cons_zero, List.set_cons_succ]
  refine wpAnyH_take (i := 8) (v := .pointer (some ⟨s, 0, none⟩)) rfl (by kernel_rfl) (by kernel_rfl) (by kernel_rfl) (fun _ _ _ h => h) (Or.inl ⟨by rfl, fun w' hSw => ?_⟩) (by with_reducible assumption) ?_
  · obtain ⟨t0, _⟩ := hSw
    go_simp
  try simp only [Act.put, List.setIfInBounds_toArray, List.set_cons_zero, List.set_cons_succ]
  refine wpAnyH_take (i := 9) (v := .pointer (some ⟨xb, 5, none⟩)) rfl (by kernel_rfl) (by kernel_rfl) (by kernel_rfl) (fun _ _ _ h => h) (Or.inl ⟨by rfl, fun w' hSw => ?_⟩) (by with_reducible assumption) ?_
  · clear hSw
    go_simp
  try simp only [Act.put, List.setIfInBounds_toArray, List.set_cons_zero, List.set_cons_succ]
  refine wpAnyH_take (i := 10) (v := .agg #[.int .i64 l0, .int .i64 l1, .int .i64 l2, .int .i64 l3]) rfl (by kernel_rfl) (by kernel_rfl) (by kernel_rfl) (fun _ _ _ h => h) (Or.inl ⟨by rfl, fun w' hSw => ?_⟩) (by with_reducible assumption) ?_
  · obtain ⟨_, t5, t6, t7, t8⟩ := hSw
    go_simp
  try simp only [Act.put, List.setIfInBounds_toArray, List.set_cons_zero, List.set_cons_succ]
  refine wpAnyH_ready (rs := [4, 11]) (by kernel_rfl) (by simp) ?_
  refine AllReadyH.cons (i := 4) rfl (fun K hK => ?_) (AllReadyH.cons (i := 11) rfl (fun K hK => ?_) AllReadyH.nil)
  · go_simp
    refine hK.out _ _ HS.out (fun hHeldl => ?_)
    clear hK K
    try simp only [Act.put, List.setIfInBounds_toArray, List.set_cons_zero, List.set_cons_succ]
    refine wpAnyH_ready (rs := [11]) (by kernel_rfl) (by simp) ?_
    refine AllReadyH.cons (i := 11) rfl (fun K hK => ?_) AllReadyH.nil
    go_simp
    go_wp2_with (go_at_call 12; refine (leaf_is l0 l1 l2 l3 s m _ (HMX.out.st.keep (by first | exact Kept.refl _ | exact drew_kept _)) hmI).mono ?_; rintro e w2 ⟨b, rfl, hb2, hk2, hs2, hn2⟩; have k2 : KeptBut s wx w2 := hk2; have hb2' : wx.heap.size ≤ b := hb2; clear hk2 hb2)
    have HM2 := hide1 (HMX.out.but (Vb := fun k => wx.heap.size ≤ k ∧ k < w2.heap.size) k2 hs2 (fun k hk => hk) (ndV_of hn2 hb2' (Or.inr rfl)))
    have HS2 := hide1 (HS.out.but k2 hbs hxs)
    have HK2 := hide1 k2
    have HB2 := hide1 hb2'
    have p2 : w2.cell? ⟨bb, 2, none⟩ = some (.slice ra k rc) := k2.cell hbs q2
    clear hs2 hn2 k2 hb2'
    refine hK.out _ _ HS2.out (fun hHeldc => ?_)
    clear hK K
    try simp only [Act.put, List.setIfInBounds_toArray, List.set_cons_zero, List.set_cons_succ]
    refine wpAnyH_ready (rs := [12]) (by kernel_rfl) (by simp) ?_
    refine AllReadyH.cons (i := 12) rfl (fun K hK => ?_) AllReadyH.nil
    go_simp
    obtain ⟨w4, hw4⟩ : ∃ w4, w2.alloc (.cells #[.pointer (some ⟨b, 0, none⟩)] 43) = w4 := ⟨_, rfl⟩
    have hk4 : Kept w2 w4 := by rw [← hw4]; exact (Kept.refl w2).alloc _ _
    have hl4 : w4.heap[w2.heap.size]? = some (.cells #[.pointer (some ⟨b, 0, none⟩)] 43 (0, 0)) := by rw [← hw4]; exact World.alloc_heap_new w2 _
    have p4 : w4.cell? ⟨bb, 2, none⟩ = some (.slice ra k rc) := grown_cell hk4 p2
    have HS4 := hide1 (HS2.out.keep hk4)
    have HL4 := hide1 hl4
    have HK4 := hide1 hk4
    rw [hw4]
    clear hw4 hl4 hk4
    refine hK.out _ _ HS4.out (fun hHelda => ?_)
    clear hK K
    try simp only [Act.put, List.setIfInBounds_toArray, List.set_cons_zero, List.set_cons_succ]
    refine wpAnyH_ready (rs := [13]) (by kernel_rfl) (by simp) ?_
    refine AllReadyH.cons (i := 13) rfl (fun K hK => ?_) AllReadyH.nil
    refine step_lo (E := ndE) rfl _ _ rfl base (.slice ra k rc) row k HK.out (by rfl) ((HM2.out.keep HK4.out).rl.keep (by first | exact Kept.refl _ | exact drew_kept _)) w2.heap.size b (by rfl) HL4.out (by show (k + 1) * 8 ≤ 140737488355328; omega) (by unfold maxLen; omega) (by have h9 := (HM2.out.keep HK4.out).lo.2.2.2.2.2.2; exact h9) ?_
    intro g9 c9 w9 ho9 hg9 hor9 hlt9
    have hM4 := HM2.out.keep HK4.out
    have hbl4 : bb < w4.heap.size := (Array.getElem?_eq_some_iff.1 hM4.box).1
    have hown : ∀ d, (Value.slice ra k rc).ownBlock = some d → base ≤ d := fun d hd => (hM4.rl.lt' d hd).1
    have hob : (Value.slice ra k rc).ownBlock ≠ some bb := fun e => by have h1 := hown bb e; have h2 := hM4.lo.1; omega
    have hox : (Value.slice ra k rc).ownBlock ≠ some xb := fun e => by have h1 := (HM.out.rl.lt' xb e).2; have h2 := HXW.out.1; omega
    have hxl4 : xb < w4.heap.size := by have h1 := HK2.out.2.2.2.1; have h2 := HK4.out.size; omega
    have hg9' : w4.grownBy w9 (Value.slice ra k rc).ownBlock := hg9
    have hor9' : (Value.slice ra k rc).ownBlock = some g9 ∨ g9 = w4.heap.size := hor9
    have hS9 : LfS bb s xb l0 l1 l2 l3 w9 := HS4.out.grown hg9' hbl4 hxl4 hob hox
    have hx9 := (hg9'.block bb hbl4 (fun e => hob e.symm)).trans hM4.box
    have HFIN := hide1 (bd_row hM4 (rv2 := .slice ra k rc) rfl (Kept.refl w4) ho9 hg9' hor9' (fun d hd => by
      rcases List.mem_append.1 hd with h | h
      · exact List.mem_append_left _ (HM.out.sub d h)
      · exact List.mem_append_right _ h) hA)
    have y2 : w9.cell? ⟨bb, 2, none⟩ = some (.slice ra k rc) := by simp [World.cell?, hx9]
    have f2 : w9.frozen? ⟨bb, 2, none⟩ = false := by simp [World.frozen?, hx9]
    have hbl9 : bb < w9.heap.size := (Array.getElem?_eq_some_iff.1 hx9).1
    have HS9 := hide1 hS9
    clear ho9 hg9 hor9 hg9' hor9' hM4 hown hob hox hS9 hx9
    refine hK.out _ _ HS9.out (fun hHeld9 => ?_)
    clear hK K
    try simp only [Act.put, List.setIfInBounds_toArray, List.set_cons_zero, List.set_cons_succ]
    refine wpAnyH_take (i := 14) (v := .pointer (some ⟨bb, 0, none⟩)) rfl (by kernel_rfl) (by kernel_rfl) (by kernel_rfl) (fun _ _ _ h => h) (Or.inl ⟨by rfl, fun w' hSw => ?_⟩) (by with_reducible assumption) ?_
    · clear hSw
      go_simp
    try simp only [Act.put, List.setIfInBounds_toArray, List.set_cons_zero, List.set_cons_succ]
    refine wpAnyH_take (i := 15) (v := .pointer (some ⟨bb, 2, none⟩)) rfl (by kernel_rfl) (by kernel_rfl) (by kernel_rfl) (fun _ _ _ h => h) (Or.inl ⟨by rfl, fun w' hSw => ?_⟩) (by with_reducible assumption) ?_
    · clear hSw
      go_simp
    try simp only [Act.put, List.setIfInBounds_toArray, List.set_cons_zero, List.set_cons_succ]
    refine wpAnyH_ready (rs := [16]) (by kernel_rfl) (by simp) ?_
    refine AllReadyH.cons (i := 16) rfl (fun K hK => ?_) AllReadyH.nil
    have hS10 : LfS bb s xb l0 l1 l2 l3 (w9.setCell ⟨bb, 2, none⟩ (.slice (some ⟨g9, 0, none⟩) (k + 1) c9)) := by
      have h9 := HS9.out
      have hb := setCell_but w9 bb 2 (.slice (some ⟨g9, 0, none⟩) (k + 1) c9)
      have hb0 : (w9.setCell ⟨bb, 2, none⟩ (.slice (some ⟨g9, 0, none⟩) (k + 1) c9)).heap[bb]? = _ := HFIN.out.1.box
      exact ⟨by simp [World.cell?, hb0], hb.cell (Ne.symm hbxb) h9.2.1, hb.cell (Ne.symm hbxb) h9.2.2.1, hb.cell (Ne.symm hbxb) h9.2.2.2.1, hb.cell (Ne.symm hbxb) h9.2.2.2.2⟩
    have HS10 := hide1 hS10
    clear hS10
    go_simp
    refine hK.out _ _ HS10.out (fun hHeldt => ?_)
    clear hK K
    try simp only [Act.put, List.setIfInBounds_toArray, List.set_cons_zero, List.set_cons_succ]
    refine wpAnyH_done (by kernel_rfl) ?_ _
    clear q2 p2 p4 y2 f2
    generalize w9.setCell ⟨bb, 2, none⟩ (.slice (some ⟨g9, 0, none⟩) (k + 1) c9) = W9 at *
    go_wp2_with fail
    go_ret
    have hfin := HFIN.out
    refine ⟨rfl, _, b, (fun e => ?_), ?_, _, hfin.1, ((HKX.out.kas s hAs).trans (HK2.out.kas ?_)).trans ((HK4.out.kas s ?_).trans hfin.2)⟩
    · have h1 := (HM.out.vs b (HM.out.nd b e).1).1; have h2 := HB2.out; have h3 := HKX.out.size; omega
    · have h2 := HB2.out; have h3 := HKX.out.size; omega
    · have h3 := HKX.out.size; omega
    · have h3 := HKX.out.size; have h4 := HK2.out.2.2.2.1; omega
  · go_simp
    go_wp2_with (go_at_call 12; refine (leaf_is l0 l1 l2 l3 s m _ (HMX.out.st.keep (by first | exact Kept.refl _ | exact drew_kept _)) hmI).mono ?_; rintro e w2 ⟨b, rfl, hb2, hk2, hs2, hn2⟩; have k2 : KeptBut s wx w2 := hk2; have hb2' : wx.heap.size ≤ b := hb2; clear hk2 hb2)
    have HM2 := hide1 (HMX.out.but (Vb := fun k => wx.heap.size ≤ k ∧ k < w2.heap.size) k2 hs2 (fun k hk => hk) (ndV_of hn2 hb2' (Or.inr rfl)))
    have HS2 := hide1 (HS.out.but k2 hbs hxs)
    have HK2 := hide1 k2
    have HB2 := hide1 hb2'
    have p2 : w2.cell? ⟨bb, 2, none⟩ = some (.slice ra k rc) := k2.cell hbs q2
    clear hs2 hn2 k2 hb2'
    refine hK.out _ _ HS2.out (fun hHeldc => ?_)
    clear hK K
    try simp only [Act.put, List.setIfInBounds_toArray, List.set_cons_zero, List.set_cons_succ]
    refine wpAnyH_ready (rs := [4, 12]) (by kernel_rfl) (by simp) ?_
    refine AllReadyH.cons (i := 4) rfl (fun K hK => ?_) (AllReadyH.cons (i := 12) rfl (fun K hK => ?_) AllReadyH.nil)
    · go_simp
      refine hK.out _ _ HS2.out (fun hHeldl => ?_)
      clear hK K
      try simp only [Act.put, List.setIfInBounds_toArray, List.set_cons_zero, List.set_cons_succ]
      refine wpAnyH_ready (rs := [12]) (by kernel_rfl) (by simp) ?_
      refine AllReadyH.cons (i := 12) rfl (fun K hK => ?_) AllReadyH.nil
      go_simp
      obtain ⟨w4, hw4⟩ : ∃ w4, w2.alloc (.cells #[.pointer (some ⟨b, 0, none⟩)] 43) = w4 := ⟨_, rfl⟩
      have hk4 : Kept w2 w4 := by rw [← hw4]; exact (Kept.refl w2).alloc _ _
      have hl4 : w4.heap[w2.heap.size]? = some (.cells #[.pointer (some ⟨b, 0, none⟩)] 43 (0, 0)) := by rw [← hw4]; exact World.alloc_heap_new w2 _
      have p4 : w4.cell? ⟨bb, 2, none⟩ = some (.slice ra k rc) := grown_cell hk4 p2
      have HS4 := hide1 (HS2.out.keep hk4)
      have HL4 := hide1 hl4
      have HK4 := hide1 hk4
      rw [hw4]
      clear hw4 hl4 hk4
      refine hK.out _ _ HS4.out (fun hHelda => ?_)
      clear hK K
      try simp only [Act.put, List.setIfInBounds_toArray, List.set_cons_zero, List.set_cons_succ]
      refine wpAnyH_ready (rs := [13]) (by kernel_rfl) (by simp) ?_
      refine AllReadyH.cons (i := 13) rfl (fun K hK => ?_) AllReadyH.nil
      refine step_lo (E := ndE) rfl _ _ rfl base (.slice ra k rc) row k HK.out (by rfl) ((HM2.out.keep HK4.out).rl.keep (by first | exact Kept.refl _ | exact drew_kept _)) w2.heap.size b (by rfl) HL4.out (by show (k + 1) * 8 ≤ 140737488355328; omega) (by unfold maxLen; omega) (by have h9 := (HM2.out.keep HK4.out).lo.2.2.2.2.2.2; exact h9) ?_
      intro g9 c9 w9 ho9 hg9 hor9 hlt9
      have hM4 := HM2.out.keep HK4.out
      have hbl4 : bb < w4.heap.size := (Array.getElem?_eq_some_iff.1 hM4.box).1
      have hown : ∀ d, (Value.slice ra k rc).ownBlock = some d → base ≤ d := fun d hd => (hM4.rl.lt' d hd).1
      have hob : (Value.slice ra k rc).ownBlock ≠ some bb := fun e => by have h1 := hown bb e; have h2 := hM4.lo.1; omega
      have hox : (Value.slice ra k rc).ownBlock ≠ some xb := fun e => by have h1 := (HM.out.rl.lt' xb e).2; have h2 := HXW.out.1; omega
      have hxl4 : xb < w4.heap.size := by have h1 := HK2.out.2.2.2.1; have h2 := HK4.out.size; omega
      have hg9' : w4.grownBy w9 (Value.slice ra k rc).ownBlock := hg9
      have hor9' : (Value.slice ra k rc).ownBlock = some g9 ∨ g9 = w4.heap.size := hor9
      have hS9 : LfS bb s xb l0 l1 l2 l3 w9 := HS4.out.grown hg9' hbl4 hxl4 hob hox
      have hx9 := (hg9'.block bb hbl4 (fun e => hob e.symm)).trans hM4.box
      have HFIN := hide1 (bd_row hM4 (rv2 := .slice ra k rc) rfl (Kept.refl w4) ho9 hg9' hor9' (fun d hd => by
        rcases List.mem_append.1 hd with h | h
        · exact List.mem_append_left _ (HM.out.sub d h)
        · exact List.mem_append_right _ h) hA)
      have y2 : w9.cell? ⟨bb, 2, none⟩ = some (.slice ra k rc) := by simp [World.cell?, hx9]
      have f2 : w9.frozen? ⟨bb, 2, none⟩ = false := by simp [World.frozen?, hx9]
      have hbl9 : bb < w9.heap.size := (Array.getElem?_eq_some_iff.1 hx9).1
      have HS9 := hide1 hS9
      clear ho9 hg9 hor9 hg9' hor9' hM4 hown hob hox hS9 hx9
      refine hK.out _ _ HS9.out (fun hHeld9 => ?_)
      clear hK K
      try simp only [Act.put, List.setIfInBounds_toArray, List.set_cons_zero, List.set_cons_succ]
      refine wpAnyH_take (i := 14) (v := .pointer (some ⟨bb, 0, none⟩)) rfl (by kernel_rfl) (by kernel_rfl) (by kernel_rfl) (fun _ _ _ h => h) (Or.inl ⟨by rfl, fun w' hSw => ?_⟩) (by with_reducible assumption) ?_
      · clear hSw
        go_simp
      try simp only [Act.put, List.setIfInBounds_toArray, List.set_cons_zero, List.set_cons_succ]
      refine wpAnyH_take (i := 15) (v := .pointer (some ⟨bb, 2, none⟩)) rfl (by kernel_rfl) (by kernel_rfl) (by kernel_rfl) (fun _ _ _ h => h) (Or.inl ⟨by rfl, fun w' hSw => ?_⟩) (by with_reducible assumption) ?_
      · clear hSw
        go_simp
      try simp only [Act.put, List.setIfInBounds_toArray, List.set_cons_zero, List.set_cons_succ]
      refine wpAnyH_ready (rs := [16]) (by kernel_rfl) (by simp) ?_
      refine AllReadyH.cons (i := 16) rfl (fun K hK => ?_) AllReadyH.nil
      have hS10 : LfS bb s xb l0 l1 l2 l3 (w9.setCell ⟨bb, 2, none⟩ (.slice (some ⟨g9, 0, none⟩) (k + 1) c9)) := by
        have h9 := HS9.out
        have hb := setCell_but w9 bb 2 (.slice (some ⟨g9, 0, none⟩) (k + 1) c9)
        have hb0 : (w9.setCell ⟨bb, 2, none⟩ (.slice (some ⟨g9, 0, none⟩) (k + 1) c9)).heap[bb]? = _ := HFIN.out.1.box
        exact ⟨by simp [World.cell?, hb0], hb.cell (Ne.symm hbxb) h9.2.1, hb.cell (Ne.symm hbxb) h9.2.2.1, hb.cell (Ne.symm hbxb) h9.2.2.2.1, hb.cell (Ne.symm hbxb) h9.2.2.2.2⟩
      have HS10 := hide1 hS10
      clear hS10
      go_simp
      refine hK.out _ _ HS10.out (fun hHeldt => ?_)
      clear hK K
      try simp only [Act.put, List.setIfInBounds_toArray, List.set_cons_zero, List.set_cons_succ]
      refine wpAnyH_done (by kernel_rfl) ?_ _
      clear q2 p2 p4 y2 f2
      generalize w9.setCell ⟨bb, 2, none⟩ (.slice (some ⟨g9, 0, none⟩) (k + 1) c9) = W9 at *
      go_wp2_with fail
      go_ret
      have hfin := HFIN.out
      refine ⟨rfl, _, b, (fun e => ?_), ?_, _, hfin.1, ((HKX.out.kas s hAs).trans (HK2.out.kas ?_)).trans ((HK4.out.kas s ?_).trans hfin.2)⟩
      · have h1 := (HM.out.vs b (HM.out.nd b e).1).1; have h2 := HB2.out; have h3 := HKX.out.size; omega
      · have h2 := HB2.out; have h3 := HKX.out.size; omega
      · have h3 := HKX.out.size; omega
      · have h3 := HKX.out.size; have h4 := HK2.out.2.2.2.1; omega
    · go_simp
      obtain ⟨w4, hw4⟩ : ∃ w4, w2.alloc (.cells #[.pointer (some ⟨b, 0, none⟩)] 43) = w4 := ⟨_, rfl⟩
      have hk4 : Kept w2 w4 := by rw [← hw4]; exact (Kept.refl w2).alloc _ _
      have hl4 : w4.heap[w2.heap.size]? = some (.cells #[.pointer (some ⟨b, 0, none⟩)] 43 (0, 0)) := by rw [← hw4]; exact World.alloc_heap_new w2 _
      have p4 : w4.cell? ⟨bb, 2, none⟩ = some (.slice ra k rc) := grown_cell hk4 p2
      have HS4 := hide1 (HS2.out.keep hk4)
      have HL4 := hide1 hl4
      have HK4 := hide1 hk4
      rw [hw4]
      clear hw4 hl4 hk4
      refine hK.out _ _ HS4.out (fun hHelda => ?_)
      clear hK K
      try simp only [Act.put, List.setIfInBounds_toArray, List.set_cons_zero, List.set_cons_succ]
      refine wpAnyH_ready (rs := [4]) (by kernel_rfl) (by simp) ?_
      refine AllReadyH.cons (i := 4) rfl (fun K hK => ?_) AllReadyH.nil
      go_simp
      refine hK.out _ _ HS4.out (fun hHeldl => ?_)
      clear hK K
      try simp only [Act.put, List.setIfInBounds_toArray, List.set_cons_zero, List.set_cons_succ]
      refine wpAnyH_ready (rs := [13]) (by kernel_rfl) (by simp) ?_
      refine AllReadyH.cons (i := 13) rfl (fun K hK => ?_) AllReadyH.nil
      refine step_lo (E := ndE) rfl _ _ rfl base (.slice ra k rc) row k HK.out (by rfl) ((HM2.out.keep HK4.out).rl.keep (by first | exact Kept.refl _ | exact drew_kept _)) w2.heap.size b (by rfl) HL4.out (by show (k + 1) * 8 ≤ 140737488355328; omega) (by unfold maxLen; omega) (by have h9 := (HM2.out.keep HK4.out).lo.2.2.2.2.2.2; exact h9) ?_
      intro g9 c9 w9 ho9 hg9 hor9 hlt9
      have hM4 := HM2.out.keep HK4.out
      have hbl4 : bb < w4.heap.size := (Array.getElem?_eq_some_iff.1 hM4.box).1
      have hown : ∀ d, (Value.slice ra k rc).ownBlock = some d → base ≤ d := fun d hd => (hM4.rl.lt' d hd).1
      have hob : (Value.slice ra k rc).ownBlock ≠ some bb := fun e => by have h1 := hown bb e; have h2 := hM4.lo.1; omega
      have hox : (Value.slice ra k rc).ownBlock ≠ some xb := fun e => by have h1 := (HM.out.rl.lt' xb e).2; have h2 := HXW.out.1; omega
      have hxl4 : xb < w4.heap.size := by have h1 := HK2.out.2.2.2.1; have h2 := HK4.out.size; omega
      have hg9' : w4.grownBy w9 (Value.slice ra k rc).ownBlock := hg9
      have hor9' : (Value.slice ra k rc).ownBlock = some g9 ∨ g9 = w4.heap.size := hor9
      have hS9 : LfS bb s xb l0 l1 l2 l3 w9 := HS4.out.grown hg9' hbl4 hxl4 hob hox
      have hx9 := (hg9'.block bb hbl4 (fun e => hob e.symm)).trans hM4.box
      have HFIN := hide1 (bd_row hM4 (rv2 := .slice ra k rc) rfl (Kept.refl w4) ho9 hg9' hor9' (fun d hd => by
        rcases List.mem_append.1 hd with h | h
        · exact List.mem_append_left _ (HM.out.sub d h)
        · exact List.mem_append_right _ h) hA)
      have y2 : w9.cell? ⟨bb, 2, none⟩ = some (.slice ra k rc) := by simp [World.cell?, hx9]
      have f2 : w9.frozen? ⟨bb, 2, none⟩ = false := by simp [World.frozen?, hx9]
      have hbl9 : bb < w9.heap.size := (Array.getElem?_eq_some_iff.1 hx9).1
      have HS9 := hide1 hS9
      clear ho9 hg9 hor9 hg9' hor9' hM4 hown hob hox hS9 hx9
      refine hK.out _ _ HS9.out (fun hHeld9 => ?_)
      clear hK K
      try simp only [Act.put, List.setIfInBounds_toArray, List.set_cons_zero, List.set_cons_succ]
      refine wpAnyH_take (i := 14) (v := .pointer (some ⟨bb, 0, none⟩)) rfl (by kernel_rfl) (by kernel_rfl) (by kernel_rfl) (fun _ _ _ h => h) (Or.inl ⟨by rfl, fun w' hSw => ?_⟩) (by with_reducible assumption) ?_
      · clear hSw
        go_simp
      try simp only [Act.put, List.setIfInBounds_toArray, List.set_cons_zero, List.set_cons_succ]
      refine wpAnyH_take (i := 15) (v := .pointer (some ⟨bb, 2, none⟩)) rfl (by kernel_rfl) (by kernel_rfl) (by kernel_rfl) (fun _ _ _ h => h) (Or.inl ⟨by rfl, fun w' hSw => ?_⟩) (by with_reducible assumption) ?_
      · clear hSw
        go_simp
      try simp only [Act.put, List.setIfInBounds_toArray, List.set_cons_zero, List.set_cons_succ]
      refine wpAnyH_ready (rs := [16]) (by kernel_rfl) (by simp) ?_
      refine AllReadyH.cons (i := 16) rfl (fun K hK => ?_) AllReadyH.nil
      have hS10 : LfS bb s xb l0 l1 l2 l3 (w9.setCell ⟨bb, 2, none⟩ (.slice (some ⟨g9, 0, none⟩) (k + 1) c9)) := by
        have h9 := HS9.out
        have hb := setCell_but w9 bb 2 (.slice (some ⟨g9, 0, none⟩) (k + 1) c9)
        have hb0 : (w9.setCell ⟨bb, 2, none⟩ (.slice (some ⟨g9, 0, none⟩) (k + 1) c9)).heap[bb]? = _ := HFIN.out.1.box
        exact ⟨by simp [World.cell?, hb0], hb.cell (Ne.symm hbxb) h9.2.1, hb.cell (Ne.symm hbxb) h9.2.2.1, hb.cell (Ne.symm hbxb) h9.2.2.2.1, hb.cell (Ne.symm hbxb) h9.2.2.2.2⟩
      have HS10 := hide1 hS10
      clear hS10
      go_simp
      refine hK.out _ _ HS10.out (fun hHeldt => ?_)
      clear hK K
      try simp only [Act.put, List.setIfInBounds_toArray, List.set_cons_zero, List.set_cons_succ]
      refine wpAnyH_done (by kernel_rfl) ?_ _
      clear q2 p2 p4 y2 f2
      generalize w9.setCell ⟨bb, 2, none⟩ (.slice (some ⟨g9, 0, none⟩) (k + 1) c9) = W9 at *
      go_wp2_with fail
      go_ret
      have hfin := HFIN.out
      refine ⟨rfl, _, b, (fun e => ?_), ?_, _, hfin.1, ((HKX.out.kas s hAs).trans (HK2.out.kas ?_)).trans ((HK4.out.kas s ?_).trans hfin.2)⟩
      · have h1 := (HM.out.vs b (HM.out.nd b e).1).1; have h2 := HB2.out; have h3 := HKX.out.size; omega
      · have h2 := HB2.out; have h3 := HKX.out.size; omega
      · have h3 := HKX.out.size; omega
      · have h3 := HKX.out.size; have h4 := HK2.out.2.2.2.1; omega

end Tr
end Ex
end Go.Proofs.Yteckbpmliahhhaa
namespace Go.Proofs.Yteckbpmliahhhaa
open Go.RowKit Go.Maps
attribute [local go_sem] Oper.semAt_some
namespace Ex
namespace Tr

/-- While the steps are done. -/
def ApI (P : List Nat) (N0 : Nat → Nd) (f : Int → Option Nat) (M0 s b : Nat) (SSs : List (OpM × Nat)) (base bb mb n A : Nat) (w : World) (j : Nat) (wr : World) : Prop := ∃ V S N m rv srow row, BdM base bb s mb V S N m n f rv row wr ∧ ApS P N0 f M0 s S N srow row ∧ okRun N0 f [b] (SSs.drop j) srow ∧ M0 ≤ m ∧ m ≤ M0 + j ∧ row.length ≤ j ∧ KAS A s w wr
/-- What Apply answers. -/
def ApOut (P : List Nat) (N0 : Nat → Nd) (f : Int → Option Nat) (M0 s b L : Nat) (w : World) (e : Ending) (w' : World) : Prop := ∃ c V S N m, e = .returned (.tuple #[.pointer (some ⟨c, 0, none⟩), .int .i64 0]) ∧ KeptBut s w w' ∧ StoreAt w' s m ∧ M0 ≤ m ∧ m ≤ M0 + L ∧ (∀ d ∈ S, NdV V w' d (N d)) ∧ (∀ k, V k → k < w'.heap.size) ∧ FoOk S N s ∧ (∀ d ∈ P, d ∈ S ∧ N d = N0 d) ∧ c ∈ S ∧ RelL N0 N f M0 (wlB N0 [b]) (wlB N [c])
theorem drop_atA {α : Type} {l : List α} {j : Nat} {x : α} (h : l[j]? = some x) : l.drop j = x :: l.drop (j + 1) := by
  have h9 := List.getElem?_eq_some_iff.1 h
  rw [List.drop_eq_getElem_cons h9.1, h9.2]
set_option linter.unusedSimpArgs false in
set_option maxRecDepth 100000 in
set_option maxHeartbeats 8000000 in
theorem applyD_ok (P : List Nat) (N0 : Nat → Nd) (V0 : Nat → Prop) (s M0 a b b0 : Nat) (lv : Value) (w : World) (hV0 : ∀ k, V0 k → k < w.heap.size ∧ k ≠ s) (hN : ∀ c ∈ P, NdV V0 w c (N0 c)) (hst : StoreAt w s M0) (hM0 : M0 ≤ 4611686018420000000) (hS : SrcOk P N0 (nodeF N0 (walkL N0 a)) s) (hnum : NumOk (fun c => c ∈ P) N0) (ha : a ∈ P) (hb : b ∈ P) (hl : LO opE w b0 lv (stp N0 (nodeF N0 (walkL N0 a)) b)) (hb0 : s < b0) :
    Calls Try.prog 7 #[.pointer (some ⟨s, 0, none⟩), .pointer (some ⟨a, 0, none⟩), lv] w (ApOut P N0 (nodeF N0 (walkL N0 a)) M0 s b (stp N0 (nodeF N0 (walkL N0 a)) b).length w) := by
  have hF0 : Forest (fun c => c ∈ P) N0 w.heap.size w := hS.fo.forest hN (fun k hk => (hV0 k hk).1)
  have HNO := hide1 (nodes_is (fun c => c ∈ P) N0 w.heap.size a w hF0 hnum ha (Nat.le_refl _))
  obtain ⟨f, hf⟩ : ∃ f, nodeF N0 (walkL N0 a) = f := ⟨_, rfl⟩
  rw [hf] at HNO hS hl ⊢
  have hlen := stp_len hF0 f (N0 b).size b hb (Nat.le_refl _)
  have hMb := (hF0 b hb).2.1.2.1
  obtain ⟨SSs, hSSs⟩ : ∃ SSs, stpS N0 f (N0 b).size b = SSs := ⟨_, rfl⟩
  have hfst : SSs.map Prod.fst = stp N0 f b := by rw [← hSSs, stpS_fst]; rfl
  have hin : ∀ x ∈ SSs, x.2 ∈ P := by rw [← hSSs]; exact stpS_in hF0 f _ b hb
  have hrun : okRun N0 f [b] (SSs.drop 0) [] := by
    rw [List.drop_zero, ← hSSs]
    have h9 := okRun_app hF0 f [b] (N0 b).size b hb (Nat.le_refl _) [] [] (by show [] ++ [b] = [b]; rfl)
    rwa [List.append_nil] at h9
  obtain ⟨L, hL⟩ : ∃ L, (stp N0 f b).length = L := ⟨_, rfl⟩
  obtain ⟨va, vc, rfl⟩ : ∃ a c, lv = .slice a L c := by rw [← hL]; exact hl.form
  have hLS : SSs.length = L := by rw [← hL, ← hfst, List.length_map]
  have hL4 : L ≤ 4194304 := by omega
  rw [hL]
  have hsl := hst.lt
  have HLR : Hid (∀ W, KAS w.heap.size s w W → ∀ j o c, SSs[j]? = some (o, c) → ∃ g, va = some ⟨g, 0, none⟩ ∧ (W.cell? ⟨g, j * 9, none⟩ = some (.int .i64 o.d0) ∧ W.cell? ⟨g, j * 9 + 1, none⟩ = some (.int .i64 o.d1) ∧ W.cell? ⟨g, j * 9 + 2, none⟩ = some (.int .i64 o.d2) ∧ W.cell? ⟨g, j * 9 + 3, none⟩ = some (.int .i64 o.d3) ∧ W.cell? ⟨g, j * 9 + 4, none⟩ = some (.int .i64 o.d4)) ∧ W.cell? ⟨g, j * 9 + 5, none⟩ = some (.int .i64 o.d5) ∧ W.cell? ⟨g, j * 9 + 6, none⟩ = some (.int .i64 o.d6) ∧ W.cell? ⟨g, j * 9 + 7, none⟩ = some (.int .i64 o.d7) ∧ W.cell? ⟨g, j * 9 + 8, none⟩ = some (.int .i64 o.d8)) := fun W hW j o c hj => by
    have h9 : (stp N0 f b)[j]? = some o := by rw [← hfst, List.getElem?_map, hj]; rfl
    exact lo_op (hl.same (fun d hd => hW.2.2.2.2 d (hl.lt' d hd).2 (by have := (hl.lt' d hd).1; omega))) h9
  have HS := hide1 hS
  have HIN := hide1 hin
  have HRUN := hide1 hrun
  have HLS := hide1 hLS
  have HV0 := hide1 hV0
  have HN := hide1 hN
  have HST := hide1 hst
  have HNUM := hide1 hnum
  have HF0 := hide1 hF0
  have HM0 := hide1 hM0
  have hLI : (L : Int) ≤ 4194304 := by omega
  have hcI : (L : Int) ≤ (vc : Int) := by have h9 := hl.cap; rw [hL] at h9; omega
  clear hF0 hf hlen hMb hSSs hfst hin hrun hL hLS hl hb0 hV0 hN hst hM0 hS hnum ha hb
  go_enter Try.func7, Try.ntmps7
  go_upto_region 4 with (go_at_call 19; refine HNO.out.mono ?_; rintro e w1 ⟨mb, n, rfl, hmb, hn, hm1, hk1⟩; have HM1 := hide1 hm1; have HK1 := hide1 hk1; have HMB := hide1 hmb; clear hm1 hk1 hmb)
  obtain ⟨bb, hbb⟩ : ∃ bb, w1.heap.size = bb := ⟨_, rfl⟩
  obtain ⟨w2, hw2⟩ : ∃ w2, w1.alloc (.cells #[.pointer (some ⟨s, 0, none⟩), .map (some mb), .slice none 0 0] 65) = w2 := ⟨_, rfl⟩
  have hk2 : Kept w1 w2 := by rw [← hw2]; exact (Kept.refl w1).alloc _ _
  have hx2 : w2.heap[bb]? = some (.cells #[.pointer (some ⟨s, 0, none⟩), .map (some mb), .slice none 0 0] 65 (0, 0)) := by rw [← hw2, ← hbb]; exact World.alloc_heap_new w1 _
  have hs2 : bb + 1 = w2.heap.size := by rw [← hw2, ← hbb]; simp
  have hkw2 : Kept w w2 := gtrans HK1.out hk2
  have hws := HK1.out.size
  have hmbl := HM1.out.lt
  have hBd : BdM (bb + 1) bb s mb V0 P N0 M0 n f (.slice none 0 0) [] w2 := by
    have hmb := HMB.out
    refine ⟨hx2, HST.out.keep hkw2, HM1.out.same (hk2.2.2.2.2 mb hmbl), LO.nil _ _, ⟨by omega, by omega, by omega, by omega, by omega, by omega, by omega⟩, fun k hk => ?_, fun c hc => (HN.out c hc).kx ⟨hkw2.size, fun k hk => hkw2.2.2.2.2 k (HV0.out k hk).1⟩, fun c hc => by cases hc⟩
    obtain ⟨v1, v2⟩ := HV0.out k hk
    exact ⟨by omega, by omega, v2, by omega, fun e => by cases e⟩
  have hI0 : ApI P N0 f M0 s b SSs (bb + 1) bb mb n w.heap.size w 0 w2 := ⟨V0, P, N0, M0, _, [], [], hBd, ⟨HS.out.fo, fun d hd => ⟨hd, rfl⟩, fun d hd => (by cases hd), fun d hd => (by cases hd), trivial⟩, HRUN.out, Nat.le_refl _, Nat.le_refl _, Nat.le_refl _, hkw2.kas s (Nat.le_refl _)⟩
  have HI0 := hide1 hI0
  have hAb : w.heap.size ≤ bb := by omega
  rw [hbb, hw2]
  obtain ⟨base, hbase⟩ : ∃ base, bb + 1 = base := ⟨_, rfl⟩
  rw [hbase] at HI0
  clear hbb hw2 hk2 hx2 hs2 hkw2 hws hmbl hBd hI0 HK1 HM1 HMB hbase HNO HRUN HN HV0
  go_wp2_with fail
  go_loopw [21] (fun v21 wr => ∃ j : Nat, j ≤ L ∧ v21 = .int .i64 (j : Int) ∧ Hid (ApI P N0 f M0 s b SSs base bb mb n w.heap.size w j wr)) (fun v21 _ => L - (intOf v21).toNat)
  case atStart => exact ⟨0, Nat.zero_le _, rfl, HI0⟩
  case round =>
    obtain ⟨j, hj, rfl, HI⟩ := hrel
    obtain ⟨V, S, N, m, rv, srow, row, hM, hA, hR, hm0, hm1, hrl, hK⟩ := HI.out
    by_cases hjL : j < L
    · have hjI : (j : Int) < (L : Int) := by omega
      obtain ⟨x, hx⟩ : ∃ x, SSs[j]? = some x := ⟨_, List.getElem?_eq_getElem (by rw [HLS.out]; exact hjL)⟩
      obtain ⟨o, c⟩ := x
      have hcP : c ∈ P := HIN.out (o, c) (List.mem_of_getElem? hx)
      obtain ⟨g, rfl, ⟨e0, e1, e2, e3, e4⟩, e5, e6, e7, e8⟩ := HLR.out wr hK j o c hx
      rw [drop_atA hx] at hR
      have hFo : Forest (fun d => d ∈ S) N wr.heap.size wr := hA.1.forest hM.nd (fun k hk => (hM.vs k hk).1)
      have hAw : w.heap.size ≤ wr.heap.size := hK.2.2.2.1
      have HM := hide1 hM
      have HA := hide1 hA
      have HK := hide1 hK
      have HFo := hide1 hFo
      have hmm := HM0.out
      clear hx HI
      rcases hR with ⟨r1, rfl, r2⟩ | ⟨r1, r3, rfl, r2⟩ | ⟨r1, r3, rfl, r0, hr0, r2⟩
      · dsimp only at e0 e1 e2 e3 e4 e5 e6 e7 e8
        obtain ⟨kp1, _⟩ := HS.out.kp c hcP r1
        have hfit : fits ((N0 c).num : Int) := ⟨by omega, HNUM.out c hcP⟩
        have hcS : c ∈ S := (hA.2.1 c hcP).1
        obtain ⟨id, hid⟩ : ∃ id : Int, ((N0 c).num : Int) = id := ⟨_, rfl⟩
        rw [hid] at kp1 hfit e1
        have HDO : Hid (∀ W, Kept wr W → Calls Try.prog 20 #[.pointer (some ⟨bb, 0, none⟩), .agg #[.int .i64 1, .int .i64 id, .int .i64 0, .int .i64 0, .int .i64 0, .int .i64 0, .int .i64 0, .int .i64 0, .int .i64 0]] W fun e w' => e = .returned (.int .i64 0) ∧ BdR base bb s mb w.heap.size V S N m n f (row ++ [c]) W w') := fun W hW => doB_keep base bb s mb w.heap.size V S N m n f rv row W (hM.keep hW) id c kp1 hfit hcS (by omega) hAb (Nat.le_trans hAw hW.size)
        have HNX : Hid (ApS P N0 f M0 s S N (srow ++ [c]) (row ++ [c])) := hA.keep HS.out hcP r1 HF0.out
        have HR2 := hide1 r2
        clear hM hA hK hFo kp1 hfit hid r1 r2
        go_wp2_with (go_at_call 20; refine (HDO.out _ ((Kept.refl wr).alloc _ _)).mono ?_; rintro e w3 ⟨rfl, rv3, h3, h4⟩; have H3 := hide1 h3; have H4 := hide1 h4; clear h3 h4)
        have HFIN : Hid (ApI P N0 f M0 s b SSs base bb mb n w.heap.size w (j + 1) w3) := ⟨V, S, N, m, rv3, _, _, H3.out, HNX.out, HR2.out, hm0, by omega, by rw [List.length_append, List.length_singleton]; omega, HK.out.trans ((((Kept.refl wr).alloc _ _).kas s hAw).trans H4.out)⟩
        exact ⟨⟨j + 1, by omega, by simp, HFIN⟩, by simp [intOf] <;> omega⟩
      · dsimp only at e0 e1 e2 e3 e4 e5 e6 e7 e8
        obtain ⟨l0, hl0⟩ : ∃ x, (N0 c).l0 = x := ⟨_, rfl⟩
        obtain ⟨l1, hl1⟩ : ∃ x, (N0 c).l1 = x := ⟨_, rfl⟩
        obtain ⟨l2, hl2⟩ : ∃ x, (N0 c).l2 = x := ⟨_, rfl⟩
        obtain ⟨l3, hl3⟩ : ∃ x, (N0 c).l3 = x := ⟨_, rfl⟩
        rw [hl0] at e5
        rw [hl1] at e6
        rw [hl2] at e7
        rw [hl3] at e8
        have HDO : Hid (∀ W, Kept wr W → Calls Try.prog 20 #[.pointer (some ⟨bb, 0, none⟩), .agg #[.int .i64 2, .int .i64 0, .int .i64 0, .int .i64 0, .int .i64 0, .int .i64 l0, .int .i64 l1, .int .i64 l2, .int .i64 l3]] W fun e w' => e = .returned (.int .i64 0) ∧ BdN base bb s mb w.heap.size S N m n f (leafN s m l0 l1 l2 l3) row W w') := fun W hW => doB_leaf base bb s mb w.heap.size V S N m n f rv row W (hM.keep hW) l0 l1 l2 l3 (by omega) (by omega) hAb (Nat.le_trans hAw hW.size)
        have HNX : Hid (∀ d, d ∉ S → ApS P N0 f M0 s (S ++ [d]) (fun k => if k = d then leafN s m l0 l1 l2 l3 else N k) (srow ++ [c]) (row ++ [d])) := fun d hd => by
          rw [← hl0, ← hl1, ← hl2, ← hl3]
          exact HA.out.leaf HS.out hcP r1 r3 hd hm0 HF0.out HFo.out
        have HR2 := hide1 r2
        clear hM hA hK hFo r1 r2 r3 hl0 hl1 hl2 hl3
        go_wp2_with (go_at_call 20; refine (HDO.out _ ((Kept.refl wr).alloc _ _)).mono ?_; rintro e w3 ⟨rfl, V3, d, hd, hd2, rv3, h3, h4⟩; have H3 := hide1 h3; have H4 := hide1 h4; have HD := hide1 hd; clear h3 h4 hd hd2)
        have HFIN : Hid (ApI P N0 f M0 s b SSs base bb mb n w.heap.size w (j + 1) w3) := ⟨V3, _, _, m + 1, rv3, _, _, H3.out, HNX.out d HD.out, HR2.out, by omega, by omega, by rw [List.length_append, List.length_singleton]; omega, HK.out.trans ((((Kept.refl wr).alloc _ _).kas s hAw).trans H4.out)⟩
        exact ⟨⟨j + 1, by omega, by simp, HFIN⟩, by simp [intOf] <;> omega⟩
      · unfold mkOp at e0 e1 e2 e3 e4 e5 e6 e7 e8
        dsimp only at e0 e1 e2 e3 e4 e5 e6 e7 e8
        have hC := hA.2.2.2.2
        rw [hr0] at hC
        obtain ⟨q0, ks, hrow, c1, c2⟩ := hC.split
        have hkl : ks.length = (N0 c).kids.length := by have h9 := c2.len; rwa [List.length_map] at h9
        rw [← hkl] at e4
        obtain ⟨kd, hkd⟩ : ∃ x, (N0 c).kind = x := ⟨_, rfl⟩
        obtain ⟨nn, hnn⟩ : ∃ x, (N0 c).n = x := ⟨_, rfl⟩
        rw [hkd] at e2
        rw [hnn] at e3
        have hmay := (HS.out.mky c hcP r3).1
        rw [hkd, hnn] at hmay
        have hszk := c2.size
        have hszc := (HS.out.fo c hcP).2.2.2.1
        have hszl := (HS.out.fo c hcP).1.2.1
        rw [hrow] at hM
        have HDO : Hid (∀ W, Kept wr W → Calls Try.prog 20 #[.pointer (some ⟨bb, 0, none⟩), .agg #[.int .i64 3, .int .i64 0, .int .i64 kd, .int .i64 nn, .int .i64 (ks.length : Int), .int .i64 0, .int .i64 0, .int .i64 0, .int .i64 0]] W fun e w' => e = .returned (.int .i64 0) ∧ BdN base bb s mb w.heap.size S N m n f (makeN N s m kd nn ks) q0 W w') := fun W hW => doB_make base bb s mb w.heap.size V S N m n f rv q0 ks W (hM.keep hW) kd nn (fun d hd => by
          have h9 := HA.out.1 d (HA.out.2.2.2.1 d (by rw [hrow]; exact List.mem_append_right _ hd))
          exact ⟨h9.1, h9.2.2.2.2⟩) (by omega) hmay (by omega) (by rw [← hrow]; omega) hAb (Nat.le_trans hAw hW.size)
        have HNX : Hid (∀ d, d ∉ S → ApS P N0 f M0 s (S ++ [d]) (fun k => if k = d then makeN N s m kd nn ks else N k) (r0 ++ [c]) (q0 ++ [d])) := fun d hd => by
          rw [← hkd, ← hnn]
          exact HA.out.make HS.out hcP r1 r3 hd hm0 HF0.out HFo.out hr0 hrow c1 c2
        have HR2 := hide1 r2
        have HQL : Hid (q0.length ≤ j) := (by have h9 := hrl; rw [hrow, List.length_append] at h9; omega : q0.length ≤ j)
        obtain ⟨kl, hkl2⟩ : ∃ kl, ks.length = kl := ⟨_, rfl⟩
        rw [hkl2] at e4 HDO
        clear hM hA hK hFo r1 r2 r3 hkd hnn hmay hszk hszc hszl hC c1 c2 hrow hr0 hkl hkl2 hrl
        go_wp2_with (go_at_call 20; refine (HDO.out _ ((Kept.refl wr).alloc _ _)).mono ?_; rintro e w3 ⟨rfl, V3, d, hd, hd2, rv3, h3, h4⟩; have H3 := hide1 h3; have H4 := hide1 h4; have HD := hide1 hd; clear h3 h4 hd hd2)
        have HFIN : Hid (ApI P N0 f M0 s b SSs base bb mb n w.heap.size w (j + 1) w3) := ⟨V3, _, _, m + 1, rv3, _, _, H3.out, HNX.out d HD.out, HR2.out, by omega, by omega, by have h9 := HQL.out; rw [List.length_append, List.length_singleton]; omega, HK.out.trans ((((Kept.refl wr).alloc _ _).kas s hAw).trans H4.out)⟩
        exact ⟨⟨j + 1, by omega, by simp, HFIN⟩, by simp [intOf] <;> omega⟩
    · obtain rfl : j = L := by omega
      rw [List.drop_of_length_le (by rw [HLS.out]; exact Nat.le_refl _)] at hR
      have hsr : srow = [b] := hR
      obtain ⟨h1, h2, h3, h4, h5⟩ := hA
      rw [hsr] at h5
      have hrl1 := h5.len
      obtain ⟨c, rfl⟩ : ∃ c, row = [c] := by
        cases row with
        | nil => simp at hrl1
        | cons c r =>
          cases r with
          | nil => exact ⟨c, rfl⟩
          | cons d r => simp at hrl1
      obtain ⟨g, rc, rfl⟩ := LO.some' hM.rl (by simp)
      have q2 : wr.cell? ⟨bb, 2, none⟩ = some (.slice (some ⟨g, 0, none⟩) 1 rc) := by simp [World.cell?, hM.box]
      have q0 : wr.cell? ⟨g, 0, none⟩ = some (.pointer (some ⟨c, 0, none⟩)) := hM.rl.cell (i := 0) (j := 0) (x := c) rfl rfl
      have hc1 : (1 : Int) ≤ (rc : Int) := by have h9 := hM.rl.cap; simp at h9; omega
      have HOUT : Hid (ApOut P N0 f M0 s b j w (.returned (.tuple #[.pointer (some ⟨c, 0, none⟩), .int .i64 0])) wr) := ⟨c, V, S, N, m, rfl, KAS.kept ((Kept.refl w).tbut s) hK, hM.st, hm0, hm1, hM.nd, fun k hk => (hM.vs k hk).1, h1, h2, h4 c List.mem_cons_self, h5.1.1⟩
      clear hM hK h1 h2 h3 h4 h5 hrl1 hsr hR HI
      go_wp2_with fail
      go_ret2
      exact HOUT.out

end Tr
end Ex
end Go.Proofs.Yteckbpmliahhhaa
namespace Go.Proofs.Yteckbpmliahhhaa
open Go.RowKit
attribute [local go_sem] Oper.semAt_some
namespace Ex
namespace Tr

end Tr
end Ex
end Go.Proofs.Yteckbpmliahhhaa
namespace Go.Proofs.Yteckbpmliahhhaa
open Go.RowKit
set_option linter.unusedVariables false
namespace Ex
namespace Tr

section
variable {base gb s : Nat} {V : Nat → Prop} {P Q : List Nat} {N : Nat → Nd} {X : Nat → Pn} {m : Nat} {vN vP : Value} {w : World}
theorem gr_inj (hT : Tw s P Q N X) {c d : Nat} (hc : c ∈ P) (hd : d ∈ P) (h : (N c).num = (N d).num) : c = d := by
  obtain ⟨i, hi, e1, h1⟩ := hT.ofP hc
  obtain ⟨j, hj, e2, h2⟩ := hT.ofP hd
  have h3 := h1.num.1
  have h4 := h2.num.1
  have : i = j := by omega
  subst this
  rw [e1, e2]
theorem gr_numle (hT : Tw s P Q N X) {c : Nat} (hc : c ∈ P) : (N c).num ≤ P.length := by
  obtain ⟨i, hi, e1, h1⟩ := hT.ofP hc
  have h3 := h1.num.1
  omega
theorem gr_size' (hT : Tw s P Q N X) {c : Nat} (hc : c ∈ P) : (N c).size ≤ 1500 := by
  obtain ⟨i, hi, e1, h1⟩ := hT.ofP hc
  exact h1.2.1
theorem gr_fo (hM : GrM base gb s V P Q N X m vN vP w) (hT : Tw s P Q N X) : FoOk P N s := fun b hb => by
  obtain ⟨_, h2, h3, h4, h5⟩ := gr_forest hM hT b hb
  refine ⟨h2, h3, h4, h5, ?_⟩
  obtain ⟨i, hi, rfl, _, _, _, hh⟩ := hT.ofP hb
  rcases hh with ⟨l0, l1, l2, l3, e, _⟩ | ⟨kd, n, js, q0, qj, e, _⟩ <;> rw [e] <;> rfl
theorem gr_src (hM : GrM base gb s V P Q N X m vN vP w) (hT : Tw s P Q N X) {a : Nat} (ha : a ∈ P) : SrcOk P N (nodeF N (walkL N a)) s := by
  have hF := gr_forest hM hT
  have hone : ∀ p ∈ [a], p ∈ P := fun p hp => by rw [List.mem_singleton.1 hp]; exact ha
  refine ⟨gr_fo hM hT, fun c hc hk => ?_, fun c hc hk => ?_, fun c hc hf => ?_⟩
  · obtain ⟨i, hi, rfl, _, _, _, hh⟩ := hT.ofP hc
    rcases hh with ⟨l0, l1, l2, l3, e, _⟩ | ⟨kd, n, js, q0, qj, e, _⟩
    · rw [e]; exact ⟨rfl, rfl⟩
    · rw [e] at hk; exact absurd hk (may_kd q0).1
  · obtain ⟨i, hi, rfl, _, _, _, hh⟩ := hT.ofP hc
    rcases hh with ⟨l0, l1, l2, l3, e, _⟩ | ⟨kd, n, js, q0, qj, e, _⟩
    · rw [e] at hk; exact absurd rfl hk
    · rw [e]; exact ⟨q0, rfl, rfl⟩
  · obtain ⟨c', hc'⟩ := Option.isSome_iff_exists.1 hf
    obtain ⟨h1, q, hq, h2⟩ := nodeF_some hc'
    have hin : c' ∈ wlB N [a] := by
      rw [wlB_one, ← h2]
      exact List.mem_map_of_mem hq
    have hcP : c' ∈ P := wlB_in hF _ [a] rfl hone c' hin
    have hcc : c' = c := gr_inj hT hcP hc (by omega)
    subst hcc
    refine ⟨hc', fun x hx => ?_⟩
    have hxa : x ∈ wlB N [a] := wlB_trans hF _ [a] rfl hone c' hin x hx
    rw [nodeF_has]
    rw [wlB_one] at hxa
    obtain ⟨r, hr, he⟩ := List.mem_map.1 hxa
    exact List.mem_map.2 ⟨r, hr, by rw [he]⟩
theorem gr_self (hM : GrM base gb s V P Q N X m vN vP w) (hT : Tw s P Q N X) {b : Nat} (hb : b ∈ P) : stp N (nodeF N (walkL N b)) b = [⟨1, ((N b).num : Int), 0, 0, 0, 0, 0, 0, 0⟩] := by
  have hF := gr_forest hM hT
  rw [stp_eq hF _ hb, if_pos]
  rw [nodeF_has, ← wnB_one, wnB_node hF hb]
  exact Or.inl rfl
/-- What the rows of a tree and of its copy tell. -/
theorem cp_rows {N' : Nat → Nd} {f : Int → Option Nat} {M0 b c : Nat} (h : RelL N N' f M0 (wlB N [b]) (wlB N' [c])) : (rowsN N' c).length = (rowsN N b).length ∧ ∀ (i : Nat) (x y : Nd), (rowsN N' c)[i]? = some x → (rowsN N b)[i]? = some y → (x.kind = y.kind ∧ x.n = y.n ∧ x.l1 = y.l1 ∧ x.l2 = y.l2 ∧ x.kids.length = y.kids.length) ∧ ((f (y.num : Int)).isSome = true → x.num = y.num) ∧ (¬ (f (y.num : Int)).isSome = true → M0 < x.num) := by
  rw [rowsN_at, rowsN_at]
  refine ⟨by rw [List.length_map, List.length_map]; exact h.len, fun i x y hx hy => ?_⟩
  rw [List.getElem?_map] at hx hy
  obtain ⟨p, hp, rfl⟩ := Option.map_eq_some_iff.1 hx
  obtain ⟨q, hq, rfl⟩ := Option.map_eq_some_iff.1 hy
  obtain ⟨h1, h2, h3, h4, h5, h6, h7⟩ := h.at' i q p hq hp
  exact ⟨⟨h1, h2, h3, h4, h5⟩, h6, h7⟩
theorem rowsN_in (hM : GrM base gb s V P Q N X m vN vP w) (hT : Tw s P Q N X) {b : Nat} (hb : b ∈ P) {y : Nd} (hy : y ∈ rowsN N b) : ∃ c ∈ P, y = N c := by
  rw [rowsN_at] at hy
  obtain ⟨c, hc, rfl⟩ := List.mem_map.1 hy
  exact ⟨c, wlB_in (gr_forest hM hT) _ [b] rfl (fun p hp => by rw [List.mem_singleton.1 hp]; exact hb) c hc, rfl⟩
/-- Which numbers the older tree has. -/
theorem olds_has (N : Nat → Nd) (a : Nat) (y : Int) : decide (y ∈ (rowsN N a).map fun x => (x.num : Int)) = (nodeF N (walkL N a) y).isSome := by
  rw [Bool.eq_iff_iff, decide_eq_true_eq, nodeF_has]
  unfold rowsN
  rw [List.map_map]
  rfl
end

end Tr
end Ex
end Go.Proofs.Yteckbpmliahhhaa
